import PyProof.Rows.All
import Wide.All
import OpenK.AllK
import Wide.FinOn
import KE.GoesEnum
import HandS.Base
import HandS.Call
import HandS.List
import HandS.Comp
import HandS.Ends
import HandS.Dict
import HandS.Iter
import HandS.Text
import HandS.Words
import HandS.WordsList
import HandS.IsInst
import HandS.Walk
import HandS.Codes
import HandS.Conv
import PySem.Challenge.RW_redolots_k03_whole_flow
set_option Elab.async false
set_option linter.all false
set_option maxRecDepth 100000
set_option maxHeartbeats 4000000
/-! enumerate over a tracked tuple or a text, zip over two texts: walks of our own -/
namespace Rv
open PySem PySem.Spec PyProof.Rows L2

/-- an iterator that stands at it: n turns, turn i hands out what out says, as long as ok holds of the tracked heap -/
structure Feed (P : Program) (w : World) (K : PySem.W.Frag) (it : Addr) (n : Nat) (ok : Hp → Prop) (out : Nat → Option V) (st : Nat → Heap → Prop) : Prop where
  cell : ∀ i h, st i h → ∃ ob, h.get? it = some ob ∧ ∀ v, ob.data ≠ .cell v
  stay : ∀ i h1 h2, st i h1 → (∀ ob, h1.get? it = some ob → h2.get? it = some ob) → st i h2
  feed : ∀ (X : Cx), X.prog = P → X.w = w → X.K = K → X.calm = true → ∀ (pins : List (Addr × Obj)) (σ : L2.St) (H : Hp) (s : Shared), Inv X pins σ H s → ok H → H it = none →
    ∃ (fp : List Addr) (Pv : Nat → Value → Prop) (Sv : Nat → Heap → Prop), Draws X.prog X.w X.A.in1 it fp n Pv Sv ∧ (∀ i h, Sv i h → st i h) ∧ (∀ i, st i s.heap → Sv i s.heap) ∧
      (∀ i u, Pv i u → ∃ x, RelV x u ∧ out i = some x) ∧ ∀ b, b ≠ it → H b = none → b ∉ fp

theorem feed_text {P : Program} {w : World} {K : PySem.W.Frag} (it : Addr) (x : Str) (t : Tok) :
    Feed P w K it x.cps.size (fun _ => True) (fun i => (x.cps[i]?).map fun c => V.str ⟨#[c]⟩) (fun i h => h.IsStrIter it (strIterType x) x t i) where
  cell := fun i h q => by
    obtain ⟨ob, e1, e2, e3⟩ := q
    refine ⟨ob, e1, fun v z => ?_⟩
    rw [e3] at z
    cases z
  stay := fun i h1 h2 q k => by
    obtain ⟨ob, e1, e2⟩ := q
    exact ⟨ob, k ob e1, e2⟩
  feed := fun X hP hw hK hc pins σ H s I _ hn => by
    refine ⟨[it], _, _, Draws.text (A := X.A.in1) (show X.A.in1.handled = none from I.ok.hd hc) it x t, fun _ _ q => q, fun _ q => q, fun i u q => ?_, fun b hb _ hm => hb (by simpa using hm)⟩
    obtain ⟨c, tk, e1, e2⟩ := q
    exact ⟨.str ⟨#[c]⟩, ⟨tk, e2⟩, by rw [e1]; rfl⟩

theorem feed_tup {P : Program} {w : World} {K : PySem.W.Frag} (it a : Addr) (xs : List V) :
    Feed P w K it xs.length (fun H => H a = some (.tup xs)) (fun i => xs[i]?) (fun i h => h.IsTupleIter it a i) where
  cell := fun i h q => by
    obtain ⟨ob, e1, e2, e3⟩ := q
    refine ⟨ob, e1, fun v z => ?_⟩
    rw [e3] at z
    cases z
  stay := fun i h1 h2 q k => by
    obtain ⟨ob, e1, e2⟩ := q
    exact ⟨ob, k ob e1, e2⟩
  feed := fun X hP hw hK hc pins σ H s I hg hn => by
    obtain ⟨its, rv, hT, _⟩ := I.tuple (SqT.of (K := X.K) hg)
    have hl : its.toArray.size = xs.length := by
      rw [List.size_toArray]
      exact rv.length.symm
    have nai : a ≠ it := ne_of_none hg hn
    have D := Draws.tuple (prog := X.prog) (w := X.w) (A := X.A.in1) (show X.A.in1.handled = none from I.ok.hd hc) it a nai its.toArray
    rw [hl] at D
    refine ⟨[it, a], _, _, D, fun _ _ q => q.1, fun _ q => ⟨q, hT⟩, fun i u q => ?_, fun b hb hbn hm => ?_⟩
    · have q2 : its[i]? = some u := by simpa using q
      have hi : i < xs.length := by
        have := (List.getElem?_eq_some_iff.mp q2).1
        rw [rv.length]
        exact this
      obtain ⟨u', e1, r1⟩ := rv.get (List.getElem?_eq_getElem hi)
      rw [q2] at e1
      cases e1
      exact ⟨xs[i], r1, List.getElem?_eq_getElem hi⟩
    · rcases List.mem_cons.mp hm with z | z
      · exact hb z
      · have z2 : b = a := by simpa using z
        rw [z2, hg] at hbn
        cases hbn

/-- index and item in a new pair at each turn -/
def Jen (n : Nat) (ok : Hp → Prop) (out : Nat → Option V) : It :=
  ⟨fun i H => i < n ∧ ok H, fun i H v H' => ∃ T x, v = .ref T ∧ H T = none ∧ H' = upd H T (.tup [.int (i : Nat), x]) ∧ out i = some x, fun i H => i = n ∧ ok H⟩
theorem walk_jen {n : Nat} {ok : Hp → Prop} {out : Nat → Option V} : Walk (Jen n ok out) n ok (YPair (fun i => some (.int (i : Nat))) out) := by
  refine ⟨fun _ _ hi q => ⟨hi, q⟩, fun _ q => ⟨rfl, q⟩, fun i H v H' _ _ y => ?_⟩
  obtain ⟨T, x, a1, a2, a3, a4⟩ := y
  exact ⟨T, .int (i : Nat), x, a1, a2, a3, rfl, a4⟩

theorem turn_jen {P : Program} {w : World} {K : PySem.W.Frag} {elts : List Expr} {kk : Nat} {tp : Pos} {e it : Addr} {n : Nat} {ok : Hp → Prop} {out : Nat → Option V} {st : Nat → Heap → Prop}
    (F : Feed P w K it n ok out st) (hne : e ≠ it) :
    Turn P w K (.Tuple elts kk tp) (Jen n ok out) [e, it] e (fun i h => (∃ old, IsEnum h e it (0 + ((i : Nat) : Int)) old) ∧ st i h) where
  mem := List.mem_cons_self ..
  obj := fun i h q b hb => by
    obtain ⟨⟨old, he⟩, hs⟩ := q
    rcases List.mem_cons.mp hb with z | z
    · subst z
      exact ⟨_, he, fun v y => nomatch y⟩
    · have z2 : b = it := by simpa using z
      subst z2
      exact F.cell i h hs
  keep := fun i h1 h2 q k => by
    obtain ⟨⟨old, he⟩, hs⟩ := q
    exact ⟨⟨old, k e (by simp) _ he⟩, F.stay i h1 h2 hs fun ob => k it (by simp) ob⟩
  item := by
    intro X hP hw hK hc i pins s σ H E I hf q hg
    subst hP hw hK
    obtain ⟨⟨old, he⟩, hs⟩ := q
    have fe := hf e (by simp)
    have fi := hf it (by simp)
    obtain ⟨fp, Pv, Sv, D, back, go, val, off⟩ := F.feed X rfl rfl rfl hc pins σ H s I hg.2 fi.1
    refine wpAny_pyNext_enum_itemC D he (go i hs) hg.1 hne (off e hne fe.1) fun u h1 tk hu ho hs1 hT hsz hk => ?_
    obtain ⟨x, rx, ox⟩ := val i u hu
    refine ⟨_, rfl, wpAny_letOwnedTupleGo_enum (s := { s with heap := h1, toks := tk + 1 }) ho fun h2 he2 sb => ?_⟩
    have hel : e < s.heap.objs.size := Heap.lt_size he
    obtain ⟨oi, eoi, _⟩ := F.cell i s.heap hs
    have hil : it < s.heap.objs.size := Heap.lt_size eoi
    have hT2 : h2.get? s.heap.objs.size = some { cls := .type "tuple", data := .seq #[.int (0 + (i : Int)) tk, u] } := (sb.2 _ (Nat.ne_of_gt hel)).trans hT
    have kept : ∀ b ob, b ∉ [e, it] → s.heap.get? b = some ob → h2.get? b = some ob := fun b ob hb z => by
      have n1 : b ≠ e := fun y => hb (by rw [y]; simp)
      have n2 : b ≠ it := fun y => hb (by rw [y]; simp)
      exact (sb.2 b n1).trans (hk b ob n1 n2 z)
    have z0 : (0 + (i : Int)) = ((i : Nat) : Int) := by omega
    have fresh : ObjOk X.prog X.w (upd H s.heap.objs.size (.tup [.int (i : Nat), x])) h2 s.heap.objs.size (.tup [.int (i : Nat), x]) :=
      ⟨Nat.le_trans (show 2 ≤ 3 by decide) (by decide), [.int (0 + (i : Int)) tk, u], .cons ⟨tk, by rw [z0]⟩ (.cons rx .nil), ⟨_, hT2, rfl, _, rfl⟩⟩
    have I2 : Inv X pins σ (upd H s.heap.objs.size (.tup [.int (i : Nat), x])) { s with heap := h2, toks := tk + 1 } :=
      I.turnedNew (ch := [e, it]) kept hf (Nat.le_refl _) fresh
    refine ⟨.ref s.heap.objs.size, _, I2, rfl, ⟨_, x, rfl, I.hok.fresh (Nat.le_refl _), rfl, ox⟩, ⟨⟨u, ?_⟩, F.stay (i + 1) h1 h2 (back _ _ hs1) fun ob y => (sb.2 it hne.symm).trans y⟩, fun b hb => ?_⟩
    · have z1 : (0 + ((i + 1 : Nat) : Int)) = 0 + (i : Int) + 1 := by omega
      rw [z1]
      exact he2
    · have hb2 : b < s.heap.objs.size := by
        rcases List.mem_cons.mp hb with z | z
        · rw [z]; exact hel
        · rw [show b = it by simpa using z]; exact hil
      rw [upd_ne (Nat.ne_of_lt hb2)]
      exact (hf b hb).1
  done := by
    intro X hP hw hK hc i pins s σ H E I hf q hg
    subst hP hw hK
    obtain ⟨⟨old, he⟩, hs⟩ := q
    obtain ⟨rfl, hok⟩ := hg
    obtain ⟨f0, f1, f2, f3, f4, f5⟩ := hf it (by simp)
    obtain ⟨fp, Pv, Sv, D, back, go, val, off⟩ := F.feed X rfl rfl rfl hc pins σ H s I hok f0
    exact wpAny_pyNext_enum_endD D he (go _ hs) fun h1 eb => ⟨rfl, I.turned (t' := s.toks) (fun b ob hb y => eb b ob hb y) f0 f1 f3 f4 f5⟩
  self := fun A i s Q E q h => by
    obtain ⟨⟨old, he⟩, _⟩ := q
    exact wpAny_pyIter_enum he h

theorem en1 {v : Value} {o : Obj} {G : Heap → Prop} (B : Begins v o G) :
    Meets (Builtin.«enumerate.__new__» ⟨[.type "enumerate", v], []⟩) (fun _ R s => G s.heap ∧
      R (.ok (.ret (.ref (s.heap.push o).objs.size)))
        { s with heap := (s.heap.push o).push { cls := .type "enumerate", data := .fields #[.none, .bool false, .ref s.heap.objs.size, rawInt 0, .none, .none] } }) :=
  .of_wp fun prog w A R s h => by
    obtain ⟨hp, g, d, tk, os⟩ := s
    obtain ⟨h1, h⟩ := h
    have hsub := sub_enumerate
    have begun : ∀ {A' : Around} {E : Value → Shared → Prop} {Q : Value → Shared → Prop}, Q (.ref hp.objs.size) ⟨hp.push o, g, d, tk, os⟩ → wpAny (model prog w) A' (pyIter v) Q E ⟨hp, g, d, tk, os⟩ :=
      fun q => B.iter prog w _ _ ⟨hp, g, d, tk, os⟩ _ h1 q
    wp_walk using begun
    refine wpAny_stack_any fun stk => wpAny_pure ?_
    split
    · rename_i c _ _ _ _ _
      cases (c == Value.type "enumerate")
      all_goals (wp_walk using begun; exact ⟨_, rfl, h⟩)
    · wp_walk using begun
      exact ⟨_, rfl, h⟩
theorem enum1 {prog : Program} {w : World} {A : Around} {E : Value → Shared → Prop} {s : Shared} {v : Value} {o : Obj} {G : Heap → Prop} {Q : Value → Shared → Prop} (B : Begins v o G) (h1 : G s.heap)
    (h : ∀ h', IsEnum h' (s.heap.objs.size + 1) s.heap.objs.size 0 .none → h'.get? s.heap.objs.size = some o → (∀ b u, s.heap.get? b = some u → h'.get? b = some u) → Q (.ref (s.heap.objs.size + 1)) { s with heap := h' }) :
    wpAny (model prog w) A (call (.type "enumerate") [v]) Q E s := by
  refine callType_new F.called_enumerate (by decide) (F.typeCall_enumerate_1 _) (F.newCall_enumerate_1 _) (fun ob => F.args_object_init_2 ob _) F.entry_enumerate_new (en1 B) ⟨h1, ?_⟩
  have sz : (s.heap.push o).objs.size = s.heap.objs.size + 1 := Heap.size_push ..
  have here := Heap.get?_push_size (s.heap.push o) (o := { cls := .type "enumerate", data := .fields #[.none, .bool false, .ref s.heap.objs.size, rawInt 0, .none, .none] }) rfl
  rw [sz] at here
  show _ ∧ _
  rw [sz]
  exact ⟨⟨_, here, rfl⟩, h _ here (Heap.get?_push_of_some _ (Heap.get?_push_size _ B.free)) fun b u y => Heap.get?_push_of_some _ (Heap.get?_push_of_some _ y)⟩

def iEnT (ta : TA) : TI := fun σ H R => ta σ H fun vs H1 => ∃ a xs, vs = [.ref a] ∧ H1 a = some (.tup xs) ∧ R (Jen xs.length (fun H => H a = some (.tup xs)) (fun i => xs[i]?)) H1
theorem pi_enT {X : Cx} {e : Expr} {ta : TA} {p pos tpos : Pos} {elts : List Expr} {kk : Nat} (hg : Gl X "enumerate") (hm : X.mg "enumerate" = none) (ha : PA X [e] ta) (hs : starEach [e] X.env = [(false, eval e X.env)] := by rfl) :
    PI X (.Tuple elts kk tpos) (.Call (.Name "enumerate" p) [e] [] pos) (iEnT ta) := by
  refine ⟨fun pins s σ H R I h => Call_ (ld_blt I hg hm boot_enumerate (PyProof.Rows.callWith_type1 (thn (ha.run pos pins s σ H _ I h) fun us s1 q0 => ?_) hs rfl))⟩
  obtain ⟨vs, H1, I1, r1, a, xs, rfl, hT, q⟩ := q0
  cases r1 with
  | cons r rr =>
    cases rr
    cases r
    obtain ⟨its, rv, hI, _⟩ := I1.tuple (SqT.of (K := X.K) hT)
    refine enum1 (begins_tuple a its.toArray) hI fun h' he ho hk => wpAny_pyIter_enum he ?_
    have I2 : Inv X pins σ H1 { s1 with heap := h' } := I1.kept (t' := s1.toks) hk
    refine ⟨s1.heap.objs.size + 1, [s1.heap.objs.size + 1, s1.heap.objs.size], _, _, H1, rfl, I2, turn_jen (feed_tup s1.heap.objs.size a xs) (Nat.succ_ne_self _), ⟨⟨.none, he⟩, ⟨_, ho, rfl, rfl⟩⟩, fun b hb => ?_, q⟩
    have le : s1.heap.objs.size ≤ b := by
      rcases List.mem_cons.mp hb with z | z
      · rw [z]; exact Nat.le_succ _
      · rw [show b = s1.heap.objs.size by simpa using z]; exact Nat.le_refl _
    exact I1.fpOk le (I1.hok.fresh le)
def iEnS (ta : TA) : TI := fun σ H R => ta σ H fun vs H1 => ∃ x, vs = [.str x] ∧ R (Jen x.cps.size (fun _ => True) (fun i => (x.cps[i]?).map fun c => V.str ⟨#[c]⟩)) H1
theorem pi_enS {X : Cx} {e : Expr} {ta : TA} {p pos tpos : Pos} {elts : List Expr} {kk : Nat} (hg : Gl X "enumerate") (hm : X.mg "enumerate" = none) (ha : PA X [e] ta) (hs : starEach [e] X.env = [(false, eval e X.env)] := by rfl) :
    PI X (.Tuple elts kk tpos) (.Call (.Name "enumerate" p) [e] [] pos) (iEnS ta) := by
  refine ⟨fun pins s σ H R I h => Call_ (ld_blt I hg hm boot_enumerate (PyProof.Rows.callWith_type1 (thn (ha.run pos pins s σ H _ I h) fun us s1 q0 => ?_) hs rfl))⟩
  obtain ⟨vs, H1, I1, r1, x, rfl, q⟩ := q0
  cases r1 with
  | cons r rr =>
    cases rr
    obtain ⟨t, rfl⟩ := r
    refine enum1 (begins_text x t) trivial fun h' he ho hk => wpAny_pyIter_enum he ?_
    have I2 : Inv X pins σ H1 { s1 with heap := h' } := I1.kept (t' := s1.toks) hk
    refine ⟨s1.heap.objs.size + 1, [s1.heap.objs.size + 1, s1.heap.objs.size], _, _, H1, rfl, I2, turn_jen (feed_text s1.heap.objs.size x t) (Nat.succ_ne_self _), ⟨⟨.none, he⟩, ⟨_, ho, rfl, rfl⟩⟩, fun b hb => ?_, q⟩
    have le : s1.heap.objs.size ≤ b := by
      rcases List.mem_cons.mp hb with z | z
      · rw [z]; exact Nat.le_succ _
      · rw [show b = s1.heap.objs.size by simpa using z]; exact Nat.le_refl _
    exact I1.fpOk le (I1.hok.fresh le)

/-! zip of two texts -/
def sgn (x : Str) (i : Nat) : Option V := (x.cps[i]?).map fun c => V.str ⟨#[c]⟩
def Jzp (x y : Str) : It :=
  ⟨fun i _ => i < min x.cps.size y.cps.size, fun i H v H' => ∃ T a b, v = .ref T ∧ H T = none ∧ H' = upd H T (.tup [a, b]) ∧ sgn x i = some a ∧ sgn y i = some b, fun i _ => i = min x.cps.size y.cps.size⟩
theorem walk_jzp {x y : Str} : Walk (Jzp x y) (min x.cps.size y.cps.size) (fun _ => True) (YPair (sgn x) (sgn y)) :=
  ⟨fun _ _ hi _ => hi, fun _ _ => rfl, fun _ _ _ _ _ _ q => q⟩
theorem turn_jzp {P : Program} {w : World} {K : PySem.W.Frag} {elts : List Expr} {kk : Nat} {tp : Pos} {z TI TO i1 i2 : Addr} {x y : Str} {t1 t2 : Tok} (S : ZipSep2 z TI TO i1 i2 [i1] [i2]) :
    Turn P w K (.Tuple elts kk tp) (Jzp x y) [z, TI, TO, i1, i2] z (fun i h => IsZip h z TI TO .none ∧ IsTupOf2 h TI (.ref i1) (.ref i2) ∧ (∃ a b, IsTupOf2 h TO a b) ∧ h.IsStrIter i1 (strIterType x) x t1 i ∧ h.IsStrIter i2 (strIterType y) y t2 i) where
  mem := List.mem_cons_self ..
  obj := fun i h q c hc => by
    obtain ⟨hz, hTI, ⟨a, b, hTO⟩, ⟨o1, e1, _, d1⟩, ⟨o2, e2, _, d2⟩⟩ := q
    have cs : c = z ∨ c = TI ∨ c = TO ∨ c = i1 ∨ c = i2 := by simpa using hc
    rcases cs with k | k | k | k | k
    · subst k; exact ⟨_, hz, fun v n => nomatch n⟩
    · subst k; exact ⟨_, hTI, fun v n => nomatch n⟩
    · subst k; exact ⟨_, hTO, fun v n => nomatch n⟩
    · subst k; exact ⟨o1, e1, fun v n => by rw [d1] at n; cases n⟩
    · subst k; exact ⟨o2, e2, fun v n => by rw [d2] at n; cases n⟩
  keep := fun i h1 h2 q k => by
    obtain ⟨hz, hTI, ⟨a, b, hTO⟩, ⟨o1, e1, r1⟩, ⟨o2, e2, r2⟩⟩ := q
    exact ⟨k z (by simp) _ hz, k TI (by simp) _ hTI, ⟨a, b, k TO (by simp) _ hTO⟩, ⟨o1, k i1 (by simp) _ e1, r1⟩, ⟨o2, k i2 (by simp) _ e2, r2⟩⟩
  item := by
    intro X hP hw hK hc i pins s σ H E I hf q hg
    subst hP hw hK
    have hg : i < min x.cps.size y.cps.size := hg
    obtain ⟨hz, hTI, ⟨a, b, hTO⟩, s1, s2⟩ := q
    have hh : X.A.in1.handled = none := I.ok.hd hc
    have D1 := Draws.text (prog := X.prog) (w := X.w) hh i1 x t1
    have D2 := Draws.text (prog := X.prog) (w := X.w) hh i2 y t2
    refine wpAny_pyNext_zipD2_item S D1 D2 hz hTI hTO s1 s2 (by omega) (by omega) fun u1 u2 h1 tk hu1 hu2 hz1 hTO1 n1 n2 hT hsz hk => ?_
    obtain ⟨c1, k1, ec1, rfl⟩ := hu1
    obtain ⟨c2, k2, ec2, rfl⟩ := hu2
    refine ⟨_, rfl, wpAny_letOwnedTupleGo_zip (s := { s with heap := h1, toks := tk }) hz1 fun h2 hz2 sb => ?_⟩
    have hzl : z < s.heap.objs.size := Heap.lt_size hz
    have hT2 : h2.get? s.heap.objs.size = some { cls := .type "tuple", data := .seq #[.str ⟨#[c1]⟩ k1, .str ⟨#[c2]⟩ k2] } := (sb.2 _ (Nat.ne_of_gt hzl)).trans hT
    have fresh : ObjOk X.prog X.w (upd H s.heap.objs.size (.tup [.str ⟨#[c1]⟩, .str ⟨#[c2]⟩])) h2 s.heap.objs.size (.tup [.str ⟨#[c1]⟩, .str ⟨#[c2]⟩]) :=
      ⟨Nat.le_trans (show 2 ≤ 3 by decide) (by decide), [.str ⟨#[c1]⟩ k1, .str ⟨#[c2]⟩ k2], .cons ⟨k1, rfl⟩ (.cons ⟨k2, rfl⟩ .nil), ⟨_, hT2, rfl, _, rfl⟩⟩
    have kept : ∀ c ob, c ∉ [z, TI, TO, i1, i2] → s.heap.get? c = some ob → h2.get? c = some ob := fun c ob hb q => by
      have m1 : c ≠ z := fun k => hb (by rw [k]; simp)
      have m2 : c ≠ TO := fun k => hb (by rw [k]; simp)
      have m3 : c ≠ i1 := fun k => hb (by rw [k]; simp)
      have m4 : c ≠ i2 := fun k => hb (by rw [k]; simp)
      exact (sb.2 c m1).trans (hk c ob m1 m2 m3 m4 q)
    have I2 : Inv X pins σ (upd H s.heap.objs.size (.tup [.str ⟨#[c1]⟩, .str ⟨#[c2]⟩])) { s with heap := h2, toks := tk } :=
      I.turnedNew (ch := [z, TI, TO, i1, i2]) kept hf (Nat.le_refl _) fresh
    refine ⟨.ref s.heap.objs.size, _, I2, rfl, ⟨_, _, _, rfl, I.hok.fresh (Nat.le_refl _), rfl, by unfold sgn; rw [ec1]; rfl, by unfold sgn; rw [ec2]; rfl⟩, ⟨hz2, ?_, ⟨_, _, (sb.2 _ S.TOz).trans hTO1⟩, ?_, ?_⟩, fun c hcm => ?_⟩
    · exact (sb.2 _ S.TIz).trans (hk _ _ S.TIz S.TITO S.TIi1 S.TIi2 hTI)
    · obtain ⟨o1, e1, r1⟩ := n1
      exact ⟨o1, (sb.2 _ S.zi1.symm).trans e1, r1⟩
    · obtain ⟨o2, e2, r2⟩ := n2
      exact ⟨o2, (sb.2 _ S.zi2.symm).trans e2, r2⟩
    · have lt : c < s.heap.objs.size := by
        obtain ⟨o1, e1, _⟩ := s1
        obtain ⟨o2, e2, _⟩ := s2
        have cs : c = z ∨ c = TI ∨ c = TO ∨ c = i1 ∨ c = i2 := by simpa using hcm
        rcases cs with k | k | k | k | k
        · rw [k]; exact hzl
        · rw [k]; exact Heap.lt_size hTI
        · rw [k]; exact Heap.lt_size hTO
        · rw [k]; exact Heap.lt_size e1
        · rw [k]; exact Heap.lt_size e2
      rw [upd_ne (Nat.ne_of_lt lt)]
      exact (hf c hcm).1
  done := by
    intro X hP hw hK hc i pins s σ H E I hf q hg
    subst hP hw hK
    have hg : i = min x.cps.size y.cps.size := hg
    obtain ⟨hz, hTI, ⟨a, b, hTO⟩, s1, s2⟩ := q
    have hh : X.A.in1.handled = none := I.ok.hd hc
    have D1 := Draws.text (prog := X.prog) (w := X.w) hh i1 x t1
    have D2 := Draws.text (prog := X.prog) (w := X.w) hh i2 y t2
    refine wpAny_pyNext_zipD2_end S D1 D2 hz hTI hTO s1 s2 (by omega) (by omega) (by omega) fun h1 tk hk => ⟨rfl, I.turnedL (ch := [z, TI, TO, i1, i2]) (fun c ob hb q => ?_) hf⟩
    exact hk c ob (fun k => hb (by rw [k]; simp)) (fun k => hb (by rw [k]; simp)) (fun k => hb (by rw [k]; simp)) (fun k => hb (by rw [k]; simp)) q
  self := fun A i s Q E q h => wpAny_pyIter_zip q.1 h
def iZpS (ta : TA) : TI := fun σ H R => ta σ H fun vs H1 => ∃ x y, vs = [.str x, .str y] ∧ R (Jzp x y) H1
theorem pi_zpS {X : Cx} {e e2 : Expr} {ta : TA} {p pos tpos : Pos} {elts : List Expr} {kk : Nat} (hg : Gl X "zip") (hm : X.mg "zip" = none) (ha : PA X [e, e2] ta)
    (hs : starEach [e, e2] X.env = (false, eval e X.env) :: starEach [e2] X.env := by rfl) (hpl : (backTo pos (starEach [e2] X.env)).any (·.1) = false := by rfl) :
    PI X (.Tuple elts kk tpos) (.Call (.Name "zip" p) [e, e2] [] pos) (iZpS ta) := by
  refine ⟨fun pins s σ H R I h => Call_ (ld_blt I hg hm PyProof.Rows.boot_zip (PyProof.Rows.callWith_type1 (thn (ha.run pos pins s σ H _ I h) fun us s1 q0 => ?_) hs hpl))⟩
  obtain ⟨vs, H1, I1, r1, x, y, rfl, q⟩ := q0
  cases r1 with
  | cons r rr =>
    cases rr with
    | cons r2 rr =>
      cases rr
      obtain ⟨t1, rfl⟩ := r
      obtain ⟨t2, rfl⟩ := r2
      refine zip_begins2 (begins_text x t1) (begins_text y t2) trivial trivial fun h' hz hTI hTO g1 g2 hsz hk => wpAny_pyIter_zip hz ?_
      have I2 : Inv X pins σ H1 { s1 with heap := h' } := I1.kept (t' := s1.toks) hk
      have S := zip_sep2 (N := s1.heap.objs.size) (fp1 := []) (fp2 := []) (fun _ k => nomatch k) (fun _ k => nomatch k)
      refine ⟨s1.heap.objs.size + 4, [s1.heap.objs.size + 4, s1.heap.objs.size + 2, s1.heap.objs.size + 3, s1.heap.objs.size, s1.heap.objs.size + 1], _, _, H1, rfl, I2, turn_jzp S, ⟨hz, hTI, ⟨_, _, hTO⟩, ⟨_, g1, rfl, rfl⟩, ⟨_, g2, rfl, rfl⟩⟩, fun c hcm => ?_, q⟩
      have le : s1.heap.objs.size ≤ c := by
        have cs : c = s1.heap.objs.size + 4 ∨ c = s1.heap.objs.size + 2 ∨ c = s1.heap.objs.size + 3 ∨ c = s1.heap.objs.size ∨ c = s1.heap.objs.size + 1 := by simpa using hcm
        rcases cs with k | k | k | k | k <;> rw [k] <;> first | exact Nat.le_add_right _ _ | exact Nat.le_refl _
      exact I1.fpOk le (I1.hok.fresh le)
end Rv
/-! steps of a reading, one a piece; heaps; the bag of draws -/
namespace Rv
open PySem PySem.Spec PyProof.Rows L2

theorem pe_k {X : Cx} {x : Str} {v : V} {pos : Pos} (hg : Gl X x) (h : ∃ u, X.mg x = some u ∧ RelV v u) (hd : (x == ("__debug__" : Str)) = false := by decide) : PE X (.Name x pos) (tC v) := by
  obtain ⟨u, hm, r⟩ := h
  exact pe_glob hg hm r hd

/-- a def of the top: where it stands, how its arguments bind -/
structure Def (K : PySem.W.Frag) (mg : Str → Option Value) (x : Str) (st : Stmt) (ps : List Str) (f : Addr) (fd : FuncData) : Prop where
  F : Fun K x x st f fd
  b : Binds K fd ps []
  g : mg x = some (.ref f)
theorem def_mk {K : PySem.W.Frag} {h : Heap} {mg : Str → Option Value} {x : Str} {st : Stmt} {ps : List Str} {f : Addr} {oc : Value} {od an : Option Addr} {osl : Array (Option Value)} {kV doc pm cdv ct : Value} (X : K.In h) (G : h.Ns mainGlobals mg)
    (a : PySem.W.nsIn K mainGlobals x = some (some (.ref f))) (l : K.lookup f = some ⟨oc, od, .func (PySem.W.fnOf x x (defArgs st) (defBody st) (defScope st) .none kV doc pm an cdv ct), osl⟩)
    (c : PySem.W.codeIn K cdv x = true) (k : PySem.W.keepIn K (.ref f) = true)
    (hb : ∀ (kV doc pm : Value) (an : Option Addr) (cdv ct : Value) (us : List Value), us.length = ps.length → bindArgs (PySem.W.fnOf x x (defArgs st) (defBody st) (defScope st) .none kV doc pm an cdv ct) ⟨us, []⟩ = pure (ps.zip us)) : ∃ f fd, Def K mg x st ps f fd := by
  have F := fun_mk (st := st) l c k
  exact ⟨f, _, F, F.binds hb, PySem.W.mg_of X G a⟩
theorem const_mk {K : PySem.W.Frag} {h : Heap} {mg : Str → Option Value} {x : Str} {u : Value} {v : V} (X : K.In h) (G : h.Ns mainGlobals mg) (a : PySem.W.nsIn K mainGlobals x = some (some u)) (r : RelV v u) : ∃ u, mg x = some u ∧ RelV v u := ⟨u, PySem.W.mg_of X G a, r⟩

section
variable {σ : L2.St} {H : Hp} {i : Nat} {v x y : V} {ta tb te : TE} {b : Bool} {K : PySem.W.Frag} {t u c : TT} {Q : VK} {QB : Bool → Hp → Prop} {QA : List V → Hp → Prop} {D : Ends} {s1 s2 : TS} {tr : TA} {r : R2}
theorem rd_var (h : σ[i]? = some (some v)) (q : Q v H) : tVar i σ H Q := ⟨v, h, q⟩
theorem rd_c (q : Q v H) : tC v σ H Q := q
theorem rd_op (q : ta σ H fun x H1 => tb σ H1 fun y H2 => r x y H2 Q) : tOp r ta tb σ H Q := q
theorem rd_un {r : V → Hp → VK → Prop} (q : ta σ H fun x H1 => r x H1 Q) : tUn r ta σ H Q := q
theorem rd_U {g : Int → V} {a : Int} (q : Q (g a) H) : rU g (.int a) H Q := ⟨a, rfl, q⟩
theorem rd_I0 {g : Int → Int → V} {a b : Int} (q : Q (g a b) H) : rI0 g (.int a) (.int b) H Q := ⟨a, b, rfl, rfl, q⟩
theorem rd_I {C : Int → Int → Prop} {g : Int → Int → V} {a b : Int} (hc : C a b) (q : Q (g a b) H) : rI C g (.int a) (.int b) H Q := ⟨a, b, rfl, rfl, hc, q⟩
theorem rd_eq (h : scal x y = true) (q : Q (.bl (decide (x = y))) H) : rEq x y H Q := ⟨h, q⟩
theorem rd_ne (h : scal x y = true) (q : Q (.bl (!decide (x = y))) H) : rNe x y H Q := ⟨h, q⟩
theorem rd_k {P : Bool → Prop} (q : P b) : ∃ k, V.bl b = V.bl k ∧ P k := ⟨b, rfl, q⟩
theorem rd_test (q : te σ H fun x H' => ∃ k, x = .bl k ∧ QB k H') : tTest te σ H QB := q
theorem rd_B (q : te σ H fun x H' => ∃ k, x = .bl k ∧ QB k H') : tB te σ H QB := q
theorem rd_not (q : t σ H fun c H1 => QB (!c) H1) : tNot t σ H QB := q
theorem rd_notV (q : te σ H fun x H1 => ∃ c, x = .bl c ∧ Q (.bl (!c)) H1) : tNotV te σ H Q := q
theorem rd_and (q : t σ H fun c H1 => if c = true then u σ H1 QB else QB false H1) : tAnd t u σ H QB := q
theorem rd_or (q : t σ H fun c H1 => if c = true then QB true H1 else u σ H1 QB) : tOr t u σ H QB := q
theorem rd_andV (q : ta σ H fun x H1 => ∃ c, x = .bl c ∧ if c = true then tb σ H1 Q else Q (.bl false) H1) : tAndV ta tb σ H Q := q
theorem rd_orV (q : ta σ H fun x H1 => ∃ c, x = .bl c ∧ if c = true then Q (.bl true) H1 else tb σ H1 Q) : tOrV ta tb σ H Q := q
theorem rd_if (q : t σ H fun c H1 => if c = true then ta σ H1 Q else tb σ H1 Q) : tIf t ta tb σ H Q := q
theorem rd_chain {r' : R2} {tc : TE} (q : ta σ H fun x H1 => tb σ H1 fun y H2 => r x y H2 fun z H3 => ∃ k, z = .bl k ∧ if k = true then tc σ H3 fun w H4 => r' y w H4 Q else Q (.bl false) H3) : tChain r r' ta tb tc σ H Q := q
theorem rd_seq (q : s1 { D with nx := s2 D } σ H) : tSeq s1 s2 D σ H := q
theorem rd_next (q : D.nx σ H) : tNext D σ H := q
theorem rd_asg {g : TG} (q : te σ H fun x H1 => g x σ H1 D.nx) : tAsg te g D σ H := q
theorem rd_name {R : L2.St → Hp → Prop} (q : R (σ.set i (some v)) H) : gName i v σ H R := q
theorem rd_sub {to ti : TE} {ts : TSet} {R : L2.St → Hp → Prop} (q : to σ H fun o H1 => ti σ H1 fun i H2 => ts o i v H2 fun H3 => R σ H3) : gSub to ti ts v σ H R := q
theorem rd_gcons {g : TG} {gs : TGs} {R : L2.St → Hp → Prop} {vs : List V} (q : g v σ H fun σ' H' => gs vs σ' H' R) : gCons g gs (v :: vs) σ H R := ⟨v, vs, rfl, q⟩
theorem rd_gnil {R : L2.St → Hp → Prop} (q : R σ H) : gNil [] σ H R := ⟨rfl, q⟩
theorem rd_gtup {a : Addr} {xs : List V} {n : Nat} {gs : TGs} {R : L2.St → Hp → Prop} (h : H a = some (.tup xs)) (hn : xs.length = n) (q : gs xs σ H R) : gTup K n gs (.ref a) σ H R := ⟨a, xs, rfl, SqT.of h, hn, q⟩
theorem rd_ret (q : te σ H D.rt) : tRet te D σ H := q
theorem rd_drop (q : te σ H fun _ H1 => D.nx σ H1) : tDrop te D σ H := q
theorem rd_ifS (q : t σ H fun b H1 => if b = true then s1 D σ H1 else s2 D σ H1) : tIfS t s1 s2 D σ H := q
theorem rd_aug {ti : TIp} (h : σ[i]? = some (some v)) (q : te σ H fun y H1 => ti v y H1 fun z H2 => D.nx (σ.set i (some z)) H2) : tAug i te ti D σ H := ⟨v, h, q⟩
theorem rd_nil (q : QA [] H) : tNil σ H QA := q
theorem rd_cons (q : ta σ H fun x H1 => tr σ H1 fun xs H2 => QA (x :: xs) H2) : tCons ta tr σ H QA := q
theorem rd_CB {r : List V → Hp → VK → Prop} (q : tr σ H fun vs H1 => r vs H1 Q) : tCB r tr σ H Q := q
theorem rd_BM {Ty : String} {r : V → List V → Hp → VK → Prop} (q : ta σ H fun x H1 => tyV K Ty x H1 ∧ tr σ H1 fun xs H2 => r x xs H2 Q) : tBM K Ty r ta tr σ H Q := q
theorem rd_call {sp : Sp} {E : XK} (q : tr σ H fun vs H1 => sp vs H1 Q E) : tCall sp [] E tr σ H Q := by
  show tr σ H fun vs H1 => sp (vs ++ []) H1 Q E
  have e : (fun vs H1 => sp (vs ++ []) H1 Q E) = fun vs H1 => sp vs H1 Q E := by
    funext vs H1
    rw [List.append_nil]
  rw [e]
  exact q
theorem rd_tup (q : tr σ H fun xs H1 => xs.length ≤ sizeLine ∧ ∀ p, H1 p = none → Q (.ref p) (upd H1 p (.tup xs))) : tTup tr σ H Q := q
theorem rd_lst (q : tr σ H fun xs H1 => xs.length ≤ sizeLine ∧ ∀ p, H1 p = none → Q (.ref p) (upd H1 p (.lst xs))) : tLst tr σ H Q := q
theorem rd_ixL {p : Addr} {xs : List V} {a : Int} (h : SqL K H p xs) (e : atI xs a = some v) (q : Q v H) : rIxL K (.ref p) (.int a) H Q := ⟨p, xs, a, v, rfl, rfl, h, e, q⟩
theorem rd_ixT {p : Addr} {xs : List V} {a : Int} (h : H p = some (.tup xs)) (e : atI xs a = some v) (q : Q v H) : rIxT K (.ref p) (.int a) H Q := ⟨p, xs, a, v, rfl, rfl, SqT.of h, e, q⟩
theorem rd_ixS {z : Str} {a : Int} {c : Nat} (hz : z.length ≤ sizeLine) (e : atI z.cps.toList a = some c) (q : Q (.str ⟨#[c]⟩) H) : rIxS (.str z) (.int a) H Q := ⟨z, a, c, rfl, rfl, hz, e, q⟩
theorem rd_setL {p : Addr} {xs : List V} {a : Int} {j : Nat} {R : Hp → Prop} (h : H p = some (.lst xs)) (e : ixN xs.length a = some j) (q : R (upd H p (.lst (xs.set j v)))) : rSetL (.ref p) (.int a) v H R := ⟨p, xs, a, j, rfl, rfl, h, e, q⟩
/-- a new object: only that all stands as it stood, and where it is -/
theorem rd_new {p : Addr} {o : HO} {R : Hp → Prop} (np : H p = none) (q : ∀ H', Same H H' → H' p = some o → R H') : R (upd H p o) :=
  q _ (fun a u e => by rw [upd_ne (ne_of_none e np)]; exact e) upd_same
end

/-! built-in calls under names of their own -/
def rLenQ (K : PySem.W.Frag) : List V → Hp → VK → Prop := fun xs H Q => ∃ p ys, xs = [.ref p] ∧ (SqL K H p ys ∨ SqT K H p ys) ∧ Q (.int ys.length) H
def rLenZ : List V → Hp → VK → Prop := fun xs H Q => ∃ z, xs = [.str z] ∧ z.length ≤ sizeLine ∧ Q (.int z.length) H
def rIntQ : List V → Hp → VK → Prop := fun xs H Q => ∃ i, xs = [.int i] ∧ Q (.int i) H
def rAbsQ : List V → Hp → VK → Prop := fun xs H Q => ∃ i, xs = [.int i] ∧ Q (.int (if i < 0 then -i else i)) H
def rStrQ : List V → Hp → VK → Prop := fun xs H Q => ∃ i, xs = [.int i] ∧ i.natAbs.log2 < 1920 ∧ Q (.str (toString i)) H
def rTupQ (K : PySem.W.Frag) : List V → Hp → VK → Prop := fun xs H Q => ∃ p ys, xs = [.ref p] ∧ SqL K H p ys ∧ ∀ l, H l = none → Q (.ref l) (upd H l (.tup ys))
def rLstQ (K : PySem.W.Frag) : List V → Hp → VK → Prop := fun xs H Q => ∃ p ys, xs = [.ref p] ∧ (SqL K H p ys ∨ SqT K H p ys) ∧ ∀ l, H l = none → Q (.ref l) (upd H l (.lst ys))
def rMinQ : List V → Hp → VK → Prop := fun xs H Q => ∃ i j, xs = [.int i, .int j] ∧ Q (.int (if j < i then j else i)) H
def rSgnQ : R2 := fun x y H Q => ∃ (c : Nat) (z : Str), x = .str ⟨#[c]⟩ ∧ y = .str z ∧ Q (.bl (decide (c ∈ z.cps.toList))) H
section
variable {X : Cx}
theorem call_lenQ : CallR X (.builtin "len") (rLenQ X.K) := call_len_seq
theorem call_lenZ : CallR X (.builtin "len") rLenZ := call_len_str
theorem call_intQ : CallR X (.type "int") rIntQ := fun pins s σ H xs us Q I r h => call_int1 pins s σ H xs us Q I r (.inl h)
theorem call_absQ : CallR X (.builtin "abs") rAbsQ := call_abs
theorem call_strQ : CallR X (.type "str") rStrQ := call_str_int
theorem call_tupQ : CallR X (.type "tuple") (rTupQ X.K) := fun pins s σ H xs us Q I r h => call_tuple_of pins s σ H xs us Q I r (by
  obtain ⟨p, ys, e, h1, h2⟩ := h
  exact ⟨p, ys, e, .inl ⟨h1, h2⟩⟩)
theorem call_lstQ : CallR X (.type "list") (rLstQ X.K) := call_list_of
theorem call_minQ (hc : X.calm = true) : CallR X (.builtin "min") rMinQ := call_min2 hc
theorem op_sgnQ : OpR X (compareOp .In) rSgnQ := op_in_sign
end
section
variable {H H1 H2 : Hp} {p a : Addr} {xs : List V} {K : PySem.W.Frag} {Q : VK} {o : HO} {A B : Prop} {b : Bool}


theorem rd_ixM {v : V} {i : Int} (h : H p = some (.lst xs)) (e : atI xs i = some v) (q : Q v H) : rIxL K (.ref p) (.int i) H Q := ⟨p, xs, i, v, rfl, rfl, SqL.of h, e, q⟩

theorem rd_lenT (h : H p = some (.tup xs)) (q : Q (.int xs.length) H) : rLenQ K [.ref p] H Q := ⟨p, xs, rfl, .inr (SqT.of h), q⟩
theorem rd_lenL (h : H p = some (.lst xs)) (q : Q (.int xs.length) H) : rLenQ K [.ref p] H Q := ⟨p, xs, rfl, .inl (SqL.of h), q⟩
theorem rd_lenZ {z : Str} (hz : z.length ≤ sizeLine) (q : Q (.int z.length) H) : rLenZ [.str z] H Q := ⟨z, rfl, hz, q⟩
theorem rd_intQ {i : Int} (q : Q (.int i) H) : rIntQ [.int i] H Q := ⟨i, rfl, q⟩
theorem rd_absQ {i : Int} (q : Q (.int (if i < 0 then -i else i)) H) : rAbsQ [.int i] H Q := ⟨i, rfl, q⟩
theorem rd_minQ {i j : Int} (q : Q (.int (if j < i then j else i)) H) : rMinQ [.int i, .int j] H Q := ⟨i, j, rfl, q⟩
theorem rd_strQ {i : Int} (h0 : 0 ≤ i) (h1 : i < 10) (q : Q (.str (toString i)) H) : rStrQ [.int i] H Q := ⟨i, rfl, Nat.lt_of_le_of_lt (Nat.log2_le_self _) (by omega), q⟩
theorem rd_tupQ (h : H p = some (.lst xs)) (q : ∀ l, H l = none → Q (.ref l) (upd H l (.tup xs))) : rTupQ K [.ref p] H Q := ⟨p, xs, rfl, SqL.of h, q⟩
theorem rd_lstL (h : H p = some (.lst xs)) (q : ∀ l, H l = none → Q (.ref l) (upd H l (.lst xs))) : rLstQ K [.ref p] H Q := ⟨p, xs, rfl, .inl (SqL.of h), q⟩
theorem rd_sgn {c : Nat} {z : Str} (q : Q (.bl (decide (c ∈ z.cps.toList))) H) : rSgnQ (.str ⟨#[c]⟩) (.str z) H Q := ⟨c, z, rfl, rfl, q⟩
theorem rd_isiT {T : String} (h : H p = some (.tup xs)) (e : kitB "tuple" T = some b) (q : Q (.bl b) H) : rIsi K [.ref p, .ty T] H Q := ⟨_, _, _, _, b, rfl, .ty T, .base (.tup h), kit_ty e, q⟩
theorem rd_isiL {T : String} (h : H p = some (.lst xs)) (e : kitB "list" T = some b) (q : Q (.bl b) H) : rIsi K [.ref p, .ty T] H Q := ⟨_, _, _, _, b, rfl, .ty T, .base (.lst h), kit_ty e, q⟩
theorem rd_isiI {T : String} {i : Int} (e : kitB "int" T = some b) (q : Q (.bl b) H) : rIsi K [.int i, .ty T] H Q := ⟨_, _, _, _, b, rfl, .ty T, .base (.int i), kit_ty e, q⟩
theorem rd_isiS {T : String} {z : Str} (e : kitB "str" T = some b) (q : Q (.bl b) H) : rIsi K [.str z, .ty T] H Q := ⟨_, _, _, _, b, rfl, .ty T, .base (.str z), kit_ty e, q⟩
theorem rd_isiB {T : String} {c : Bool} (e : kitB "bool" T = some b) (q : Q (.bl b) H) : rIsi K [.bl c, .ty T] H Q := ⟨_, _, _, _, b, rfl, .ty T, .base (.bl c), kit_ty e, q⟩
theorem kit_tt : kitB "tuple" "tuple" = some true := by decide +kernel
theorem kit_ll : kitB "list" "list" = some true := by decide +kernel
theorem kit_ii : kitB "int" "int" = some true := by decide +kernel
theorem kit_ib : kitB "int" "bool" = some false := by decide +kernel
theorem kit_ss : kitB "str" "str" = some true := by decide +kernel
theorem kit_bb : kitB "bool" "bool" = some true := by decide +kernel
theorem kit_bi : kitB "bool" "int" = some true := by decide +kernel
theorem iteNT (h : B) : if (!true) = true then A else B := h
theorem iteNF (h : A) : if (!false) = true then A else B := h
theorem iteD {c : Prop} [Decidable c] (hc : c) (h : A) : if decide c = true then A else B := by
  rw [decide_eq_true hc]
  exact iteT h
theorem iteE {c : Prop} [Decidable c] (hc : ¬ c) (h : B) : if decide c = true then A else B := by
  rw [decide_eq_false hc]
  exact iteF h
theorem iteN2 {c : Prop} [Decidable c] (hc : ¬ c) (h : A) : if (!decide c) = true then A else B := by
  rw [decide_eq_false hc]
  exact h
theorem back (S : Same H1 H2) (h : H1 p = some o) : H2 p = some o := S _ _ h
theorem sxx {a b : Nat} : (V.str ⟨#[a]⟩ = V.str ⟨#[b]⟩) ↔ a = b :=
  ⟨fun k => by
    have q := congrArg (fun z : Str => z.cps.toList) (V.str.inj k)
    simpa using q, fun k => by rw [k]⟩
end

section
variable {σ : L2.St} {H : Hp} {K : PySem.W.Frag} {Q : VK} {tb te : TE} {D p : Addr} {xs : List V}
theorem rd_yes {QB : Bool → Hp → Prop} (q : QB true H) : tYes σ H QB := q

theorem rd_all {bs : List Bool} (h : H p = some (.lst (bs.map V.bl))) (q : Q (.bl (bs.all id)) H) : rAll K [.ref p] H Q := ⟨p, bs, rfl, SqL.of h, q⟩
theorem rd_M1 {r : V → List V → Hp → VK → Prop} {z : Str} (q : te σ H fun y H2 => r (.str z) [y] H2 Q) : tM1 r (tC (.str z)) te σ H Q := ⟨⟨z, rfl⟩, q⟩



/-- a list's append, the list an own one -/
theorem rd_app {y : V} (h : H p = some (.lst xs)) (hz : xs.length < 1000) (q : Q .non (upd H p (.lst (xs ++ [y])))) : rAppend (.ref p) [y] H Q := ⟨p, xs, y, rfl, rfl, h, small1000 (by omega), q⟩
theorem rd_BML {t : TA} {to : TE} {r : V → List V → Hp → VK → Prop} (q : to σ H fun x H1 => (∃ p xs, x = .ref p ∧ H1 p = some (.lst xs)) ∧ t σ H1 fun vs H2 => r x vs H2 Q) (m : ∀ σ H (Q1 Q2 : VK), (∀ x H, Q1 x H → Q2 x H) → to σ H Q1 → to σ H Q2) : tBM K "list" r to t σ H Q :=
  m σ H _ _ (fun x H1 q => by
    obtain ⟨⟨p, xs, rfl, h⟩, q2⟩ := q
    exact ⟨.inl ⟨rfl, _, SqL.of h⟩, q2⟩) q
theorem rd_BMv {t : TA} {i : Nat} {r : V → List V → Hp → VK → Prop} (hv : σ[i]? = some (some (.ref p))) (h : H p = some (.lst xs)) (q : t σ H fun vs H2 => r (.ref p) vs H2 Q) : tBM K "list" r (tVar i) t σ H Q :=
  ⟨.ref p, hv, .inl ⟨rfl, _, SqL.of h⟩, q⟩
end
/-! loops and comprehensions under names of their own -/
def Fr (J : It) (g : TG) (tb : TS) (D : Ends) (σ : L2.St) (H : Hp) : Prop :=
  ∃ W : Nat → Nat → L2.St → Hp → Prop, (∃ m, W 0 m σ H) ∧ ∀ i m σ H, W i m σ H →
    (J.stop i H ∧ D.nx σ H) ∨ (J.go i H ∧ ∃ N : L2.St → Hp → Prop, (∀ σ' H', N σ' H' → ∃ m', m' < m ∧ W (i + 1) m' σ' H') ∧ ∀ x H', J.yld i H x H' → g x σ H' fun σ2 H2 => tb { D with nx := N, ct := N, bk := D.nx } σ2 H2)
def Lc (J : It) (g : TG) (tt : TT) (te : TE) (vs : List Nat) (σ : L2.St) (H0 : Hp) (Q : VK) : Prop :=
  ∀ D, H0 D = none → ∃ W : Nat → Nat → Hp → Prop, (∃ m, W 0 m (upd H0 D (.lst []))) ∧ ∀ i m H, W i m H →
    (J.stop i H ∧ Q (.ref D) H) ∨ (J.go i H ∧ ∃ Nx : Hp → Prop, (∀ H', Nx H' → ∃ m', m' < m ∧ W (i + 1) m' H') ∧ ∀ x H', J.yld i H x H' → g x (wipe σ vs) H' fun σ2 H2 => wipe σ2 vs = wipe σ vs ∧ tt σ2 H2 fun b H3 =>
      if b = true then te σ2 H3 fun y H4 => ∃ acc, H4 D = some (.lst acc) ∧ acc.length < sizeLine ∧ Nx (upd H4 D (.lst (acc ++ [y]))) else Nx H3)
def ItT (K : PySem.W.Frag) (R : It → Hp → Prop) (x : V) (H : Hp) : Prop := ∃ a, x = .ref a ∧ (∃ xs, SqT K H a xs) ∧ R (Itt K a) H
def ItL (K : PySem.W.Frag) (R : It → Hp → Prop) (x : V) (H : Hp) : Prop := ∃ a, x = .ref a ∧ (∃ xs, SqL K H a xs) ∧ R (Itl K a) H
def EnT (R : It → Hp → Prop) (vs : List V) (H : Hp) : Prop := ∃ a xs, vs = [.ref a] ∧ H a = some (.tup xs) ∧ R (Jen xs.length (fun H => H a = some (.tup xs)) (fun i => xs[i]?)) H
def EnS (R : It → Hp → Prop) (vs : List V) (H : Hp) : Prop := ∃ x, vs = [.str x] ∧ R (Jen x.cps.size (fun _ => True) (fun i => (x.cps[i]?).map fun c => V.str ⟨#[c]⟩)) H
def ZpS (R : It → Hp → Prop) (vs : List V) (H : Hp) : Prop := ∃ x y, vs = [.str x, .str y] ∧ R (Jzp x y) H
def Rg1 (R : It → Hp → Prop) (vs : List V) (H : Hp) : Prop := ∃ j : Int, vs = [.int j] ∧ -(2 ^ 62) ≤ j ∧ j < 2 ^ 62 ∧ R (Itr 0 j.toNat) H
section
variable {σ : L2.St} {H : Hp} {K : PySem.W.Frag} {Q : VK} {te : TE} {tr : TA} {p : Addr} {xs : List V} {wi : TI} {g : TG} {tt : TT} {vs : List Nat} {tb : TS} {D : Ends} {R : It → Hp → Prop}
theorem rd_for (q : wi σ H fun J H1 => Fr J g tb D σ H1) : tFor wi g tb D σ H := q
theorem rd_lc (q : wi σ H fun J H1 => Lc J g tt te vs σ H1 Q) : tLc wi g tt te vs σ H Q := q
theorem rd_iTup (q : te σ H fun x H1 => ItT K R x H1) : iTup K te σ H R := q
theorem rd_iList (q : te σ H fun x H1 => ItL K R x H1) : iList K te σ H R := q
theorem rd_iEnT (q : tr σ H fun vs H1 => EnT R vs H1) : iEnT tr σ H R := q
theorem rd_iEnS (q : tr σ H fun vs H1 => EnS R vs H1) : iEnS tr σ H R := q
theorem rd_iZpS (q : tr σ H fun vs H1 => ZpS R vs H1) : iZpS tr σ H R := q
theorem rd_iRg1 (q : tr σ H fun vs H1 => Rg1 R vs H1) : iRng1 tr σ H R := q
theorem rd_ItT (h : H p = some (.tup xs)) (q : R (Itt K p) H) : ItT K R (.ref p) H := ⟨p, rfl, ⟨xs, SqT.of h⟩, q⟩
theorem rd_ItL (h : H p = some (.lst xs)) (q : R (Itl K p) H) : ItL K R (.ref p) H := ⟨p, rfl, ⟨xs, SqL.of h⟩, q⟩
theorem rd_EnT (h : H p = some (.tup xs)) (q : R (Jen xs.length (fun H => H p = some (.tup xs)) (fun i => xs[i]?)) H) : EnT R [.ref p] H := ⟨p, xs, rfl, h, q⟩
theorem rd_EnS {x : Str} (q : R (Jen x.cps.size (fun _ => True) (fun i => (x.cps[i]?).map fun c => V.str ⟨#[c]⟩)) H) : EnS R [.str x] H := ⟨x, rfl, q⟩
theorem rd_ZpS {x y : Str} (q : R (Jzp x y) H) : ZpS R [.str x, .str y] H := ⟨x, y, rfl, q⟩
theorem rd_Rg1 {j : Int} (h : -100000 ≤ j ∧ j ≤ 100000) (q : R (Itr 0 j.toNat) H) : Rg1 R [.int j] H := ⟨j, rfl, by omega, by omega, q⟩
end
theorem fr_it {J : It} {n : Nat} {G : Hp → Prop} {Y : Nat → Hp → V → Hp → Prop} (w : Walk J n G Y) {g : TG} {tb : TS} {D : Ends} {σ : L2.St} {H : Hp} (Pv : Nat → L2.St → Hp → Prop) (h0 : Pv 0 σ H) (hG : ∀ i σ H, i ≤ n → Pv i σ H → G H)
    (hs : ∀ i x σ H H', i < n → Pv i σ H → Y i H x H' → g x σ H' fun σ2 H2 => tb { D with nx := Pv (i + 1), ct := Pv (i + 1), bk := D.nx } σ2 H2) (hd : ∀ σ H, Pv n σ H → D.nx σ H) : Fr J g tb D σ H := for_it w Pv h0 hG hs hd
theorem fr_rng {lo : Int} {n : Nat} {g : TG} {tb : TS} {D : Ends} {σ : L2.St} {H : Hp} (Pv : Nat → L2.St → Hp → Prop) (h0 : Pv 0 σ H)
    (hs : ∀ i σ H, i < n → Pv i σ H → g (.int (lo + i)) σ H fun σ2 H2 => tb { D with nx := Pv (i + 1), ct := Pv (i + 1), bk := D.nx } σ2 H2) (hd : ∀ σ H, Pv n σ H → D.nx σ H) : Fr (Itr lo n) g tb D σ H := for_range Pv h0 hs hd
/-- a comprehension whose items are told beforehand: ys -/
theorem lc_map {J : It} {n : Nat} {G : Hp → Prop} {Y : Nat → Hp → V → Hp → Prop} (w : Walk J n G Y) {g : TG} {tt : TT} {te : TE} {vs : List Nat} {σ : L2.St} {H0 : Hp} {Q : VK} (ys : List V) (hn : ys.length = n) (sm : n ≤ 1000)
    (hG : ∀ H, Same H0 H → G H)
    (hs : ∀ i x H H' (Qc : VK) (R : Hp → Prop), i < n → Same H0 H → Y i H x H' → (∀ y H4, Same H H4 → ys[i]? = some y → Qc y H4) →
      g x (wipe σ vs) H' fun σ2 H2 => wipe σ2 vs = wipe σ vs ∧ tt σ2 H2 fun b H3 => if b = true then te σ2 H3 Qc else R H3)
    (hd : ∀ H D, Same H0 H → H0 D = none → H D = some (.lst ys) → Q (.ref D) H) : Lc J g tt te vs σ H0 Q := fun D nD =>
  lc_it w (Qd := fun H => Q (.ref D) H) (fun i H => Same H0 H ∧ H D = some (.lst (ys.take i))) ⟨fun a o e => by rw [upd_ne (ne_of_none e nD)]; exact e, upd_same⟩ (fun i H _ p => hG H p.1)
    (fun i x H H' hi p y => hs i x H H' _ _ hi p.1 y fun z H4 S ez => by
      refine ⟨ys.take i, S _ _ p.2, small1000 (by rw [List.length_take]; omega), fun a o e => ?_, ?_⟩
      · rw [upd_ne (ne_of_none e nD)]
        exact S _ _ (p.1 _ _ e)
      · rw [upd_same, List.take_add_one, ez]
        rfl)
    (fun H p => hd H D p.1 nD (by rw [p.2, List.take_of_length_le (by omega)]))
theorem fr_rng0 {n : Nat} {g : TG} {tb : TS} {D : Ends} {σ : L2.St} {H : Hp} (Pv : Nat → L2.St → Hp → Prop) (h0 : Pv 0 σ H)
    (hs : ∀ (i : Nat) σ H, i < n → Pv i σ H → g (.int (i : Int)) σ H fun σ2 H2 => tb { D with nx := Pv (i + 1), ct := Pv (i + 1), bk := D.nx } σ2 H2) (hd : ∀ σ H, Pv n σ H → D.nx σ H) : Fr (Itr 0 n) g tb D σ H :=
  for_range Pv h0 (fun i σ H hi p => by
    have q := hs i σ H hi p
    rw [← Int.zero_add (i : Int)] at q
    exact q) hd
theorem rd_sl {r : V → Option Int → Option Int → Hp → VK → Prop} {te : TE} {tl th : TO} {σ : L2.St} {H : Hp} {Q : VK} (q : te σ H fun x H1 => tl σ H1 fun l H2 => th σ H2 fun u H3 => r x l u H3 Q) : tSl r te tl th σ H Q := q
theorem rd_noP {σ : L2.St} {H : Hp} {QO : Option Int → Hp → Prop} (q : QO none H) : tNoPart σ H QO := q
theorem rd_part {t : TE} {σ : L2.St} {H : Hp} {QO : Option Int → Hp → Prop} (q : t σ H fun x H1 => ∃ i, x = .int i ∧ QO (some i) H1) : tPart t σ H QO := q
theorem rd_i {i : Int} {P : Int → Prop} (q : P i) : ∃ k, V.int i = V.int k ∧ P k := ⟨i, rfl, q⟩
theorem rd_slL {K : PySem.W.Frag} {p : Addr} {xs : List V} {lo hi : Option Int} {H : Hp} {Q : VK} (h : SqL K H p xs) (q : ∀ l, H l = none → Q (.ref l) (upd H l (.lst (cutV xs lo hi)))) : rSlL K (.ref p) lo hi H Q := ⟨p, xs, rfl, h, q⟩
/-- a comprehension over a range -/
theorem walk_rng {n : Nat} : Walk (Itr 0 n) n (fun _ => True) (fun i H x H' => H' = H ∧ x = .int (i : Nat)) :=
  (walk_range (lo := 0)).mono (fun _ _ => trivial) fun i H x H' _ _ y => ⟨y.1, by rw [y.2]; show V.int (0 + (i : Int)) = _; rw [Int.zero_add]⟩
theorem new_gen {H : Hp} {p : Addr} (o : HO) (np : H p = none) : ∃ H', H' = upd H p o ∧ Same H H' ∧ H' p = some o := ⟨_, rfl, fun a u e => by rw [upd_ne (ne_of_none e np)]; exact e, upd_same⟩
theorem len1000 {xs : List V} (h : xs.length ≤ 1000) : xs.length ≤ sizeLine := Nat.le_of_lt (small1000 h)
theorem same_new {H0 H : Hp} {p : Addr} {o : HO} (S : Same H0 H) (np : H p = none) : Same H0 (upd H p o) := fun a u e => by
  have e2 := S a u e
  rw [upd_ne (ne_of_none e2 np)]
  exact e2
theorem same_mut {H0 H : Hp} {p : Addr} {o : HO} (S : Same H0 H) (np : H0 p = none) : Same H0 (upd H p o) := fun a u e => by
  rw [upd_ne (ne_of_none e np)]
  exact S a u e
theorem atI_int {α : Type} {xs : List α} {a : Int} (h0 : 0 ≤ a) (h1 : a < xs.length) : ∃ v, atI xs a = some v ∧ xs[a.toNat]? = some v ∧ v ∈ xs := by
  have hj : a.toNat < xs.length := by omega
  refine ⟨xs[a.toNat], ?_, List.getElem?_eq_getElem hj, List.getElem_mem hj⟩
  have e : a = ((a.toNat : Nat) : Int) := by omega
  have q := atI_nat (xs := xs) (j := a.toNat) (List.getElem?_eq_getElem hj)
  rw [← e] at q
  exact q
theorem atI_get {α : Type} {xs : List α} {j : Nat} (h : j < xs.length) : atI xs (j : Int) = some xs[j] := atI_nat (List.getElem?_eq_getElem h)
theorem ixN_of {n : Nat} {a : Int} {j : Nat} (e : a = (j : Int)) (h : j < n) : ixN n a = some j := by
  subst e
  unfold ixN
  rw [if_pos (by omega), if_pos (by omega), Int.toNat_natCast]

theorem fmod_in {a m : Int} (h : 0 < m) : 0 ≤ a.fmod m ∧ a.fmod m < m := by
  rw [Int.fmod_eq_emod_of_nonneg _ (by omega)]
  exact ⟨Int.emod_nonneg _ (by omega), Int.emod_lt_of_pos _ h⟩
/-! the bag of draws: at c the script's cells, at b [cells, place, buffer, seed, count] -/
def Bag (c : Addr) (ns : List Int) (b : Addr) (H : Hp) : Prop :=
  c ≠ b ∧ H c = some (.lst (ns.map V.int)) ∧ ∃ i buf seed cnt : Int, H b = some (.lst [.ref c, .int i, .int buf, .int seed, .int cnt]) ∧ 0 ≤ i
structure Wd (c : Addr) (ns : List Int) (b : Addr) (H0 H : Hp) : Prop where
  keep : ∀ a o, a ≠ b → H0 a = some o → H a = some o
  b0 : Bag c ns b H0
  b1 : Bag c ns b H
section
variable {c b p a : Addr} {ns : List Int} {H0 H H1 H2 : Hp} {o : HO} {xs : List V}
theorem Bag.ne (B : Bag c ns b H) (np : H p = none) : p ≠ b := fun e => by
  obtain ⟨_, _, i, bu, se, cn, e1, _⟩ := B
  rw [← e, np] at e1
  cases e1
theorem Bag.nec (B : Bag c ns b H) (np : H p = none) : p ≠ c := fun e => by
  obtain ⟨_, e1, _⟩ := B
  rw [← e, np] at e1
  cases e1
theorem Bag.upd (B : Bag c ns b H) (n1 : p ≠ b) (n2 : p ≠ c) : Bag c ns b (upd H p o) := by
  obtain ⟨h0, h1, i, bu, se, cn, e1, e2⟩ := B
  exact ⟨h0, by rw [upd_ne n2.symm]; exact h1, i, bu, se, cn, by rw [upd_ne n1.symm]; exact e1, e2⟩
theorem Bag.same (B : Bag c ns b H) (S : Same H H1) : Bag c ns b H1 := by
  obtain ⟨h0, h1, i, bu, se, cn, e1, e2⟩ := B
  exact ⟨h0, S _ _ h1, i, bu, se, cn, S _ _ e1, e2⟩
theorem Wd.refl (B : Bag c ns b H) : Wd c ns b H H := ⟨fun _ _ _ h => h, B, B⟩
theorem Wd.trans (w : Wd c ns b H0 H1) (w2 : Wd c ns b H1 H2) : Wd c ns b H0 H2 := ⟨fun a o n h => w2.keep a o n (w.keep a o n h), w.b0, w2.b1⟩
theorem Wd.ofSame (B : Bag c ns b H) (S : Same H H1) : Wd c ns b H H1 := ⟨fun a o _ h => S a o h, B, B.same S⟩
theorem Wd.same (w : Wd c ns b H0 H1) (S : Same H1 H2) : Wd c ns b H0 H2 := w.trans (.ofSame w.b1 S)
theorem Wd.free (w : Wd c ns b H0 H) (np : H p = none) : H0 p = none := by
  cases e : H0 p with
  | none => rfl
  | some o =>
    have n := w.b1.ne np
    rw [w.keep p o n e] at np
    cases np
theorem Wd.tup (w : Wd c ns b H0 H) (h : H0 a = some (.tup xs)) : H a = some (.tup xs) := by
  refine w.keep a _ (fun e => ?_) h
  obtain ⟨_, _, i, bu, se, cn, e1, _⟩ := w.b0
  rw [e, e1] at h
  cases h
theorem Wd.lst (w : Wd c ns b H0 H) (n : a ≠ b) (h : H0 a = some o) : H a = some o := w.keep a o n h
theorem Wd.put {i bu se cn : Int} (w : Wd c ns b H0 H) (h0 : 0 ≤ i) : Wd c ns b H0 (upd H b (.lst [.ref c, .int i, .int bu, .int se, .int cn])) :=
  ⟨fun a u n h => by rw [upd_ne n]; exact w.keep a u n h, w.b0, by
    obtain ⟨n0, n1, _⟩ := w.b1
    exact ⟨n0, by rw [upd_ne n0]; exact n1, i, bu, se, cn, upd_same, h0⟩⟩
theorem Wd.new (w : Wd c ns b H0 H) (np : H p = none) : Wd c ns b H0 (upd H p o) :=
  ⟨fun a u n h => by have q := w.keep a u n h; rw [upd_ne (ne_of_none q np)]; exact q, w.b0, w.b1.upd (w.b1.ne np) (w.b1.nec np)⟩
theorem Wd.mut (w : Wd c ns b H0 H) (np : H0 p = none) : Wd c ns b H0 (upd H p o) :=
  ⟨fun a u n h => by rw [upd_ne (ne_of_none h np)]; exact w.keep a u n h, w.b0, w.b1.upd (w.b0.ne np) (w.b0.nec np)⟩
end
/-! a list of ints against the empty list -/
theorem dp_ints {K : PySem.W.Frag} {H : Hp} : ∀ fs : List Int, DpAll K H (fs.map V.int) (fs.map PyData.int)
  | [] => .nil
  | x :: r => .cons (.int x) (dp_ints r)
theorem lay_ints : ∀ fs : List Int, PyData.canLayAll0 (fs.map PyData.int) = true ∧ PyData.depthAll (fs.map PyData.int) = 0
  | [] => ⟨rfl, rfl⟩
  | x :: r => by
    obtain ⟨h1, h2⟩ := lay_ints r
    constructor
    · show (PyData.canLay0 (.int x) && PyData.canLayAll0 (r.map PyData.int)) = true
      rw [h1]
      rfl
    · show max (PyData.depth (.int x)) (PyData.depthAll (r.map PyData.int)) = 0
      rw [h2]
      rfl
theorem shaped_ints (fs : List Int) : SeqAt.shaped (.list (fs.map PyData.int)) = true := by
  obtain ⟨h1, h2⟩ := lay_ints fs
  unfold SeqAt.shaped
  rw [Bool.and_eq_true]
  refine ⟨h1, decide_eq_true ?_⟩
  show PyData.depthAll (fs.map PyData.int) + 1 ≤ 64
  rw [h2]
  decide
theorem rd_neN {K : PySem.W.Frag} {H : Hp} {Q : VK} {p p2 : Addr} {fs : List Int} (h : H p = some (.lst (fs.map V.int))) (h2 : H p2 = some (.lst [])) (q : Q (.bl (!fs.isEmpty)) H) : rNeD K (.ref p) (.ref p2) H Q := by
  refine ⟨_, _, .lst (SqL.of h) (dp_ints fs), .lst (SqL.of h2) .nil, shaped_ints fs, by decide, ?_⟩
  cases fs with
  | nil => exact q
  | cons x r => exact q
/-- a comprehension within a def that draws: what is made so far is told by Pv -/
theorem lc_wd {c b : Addr} {ns : List Int} {J : It} {n : Nat} {G : Hp → Prop} {Y : Nat → Hp → V → Hp → Prop} (w : Walk J n G Y) {g : TG} {tt : TT} {te : TE} {vs : List Nat} {σ : L2.St} {H0 : Hp} {Q : VK} (B : Bag c ns b H0) (Pv : Nat → List V → Prop) (p0 : Pv 0 [])
    (sm : ∀ i acc, Pv i acc → acc.length < 1000) (hG : ∀ H, Wd c ns b H0 H → G H)
    (hs : ∀ i x H H' acc (Qc : VK) (R : Hp → Prop), i < n → Wd c ns b H0 H → Pv i acc → Y i H x H' → (∀ y H4, Wd c ns b H H4 → Pv (i + 1) (acc ++ [y]) → Qc y H4) → (∀ H4, Wd c ns b H H4 → Pv (i + 1) acc → R H4) →
      g x (wipe σ vs) H' fun σ2 H2 => wipe σ2 vs = wipe σ vs ∧ tt σ2 H2 fun b H3 => if b = true then te σ2 H3 Qc else R H3)
    (hd : ∀ H D acc, Wd c ns b H0 H → H0 D = none → H D = some (.lst acc) → Pv n acc → Q (.ref D) H) : Lc J g tt te vs σ H0 Q := fun D nD =>
  lc_it w (Qd := fun H => Q (.ref D) H) (fun i H => Wd c ns b H0 H ∧ ∃ acc, H D = some (.lst acc) ∧ Pv i acc) ⟨(Wd.refl B).mut nD, [], upd_same, p0⟩ (fun i H _ p => hG H p.1)
    (fun i x H H' hi p y => by
      obtain ⟨w0, acc, hD, pa⟩ := p
      have nDb : D ≠ b := B.ne nD
      refine hs i x H H' acc _ _ hi w0 pa y (fun z H4 w4 pz => ?_) (fun H4 w4 pz => ⟨w0.trans w4, acc, w4.lst nDb hD, pz⟩)
      exact ⟨acc, w4.lst nDb hD, small1000 (by have := sm i acc pa; omega), (w0.trans w4).mut nD, _, upd_same, pz⟩)
    (fun H p => by
      obtain ⟨w0, acc, hD, pa⟩ := p
      exact hd H D acc w0 nD hD pa)
/-! further walks -/
def EnL (K : PySem.W.Frag) (R : It → Hp → Prop) (vs : List V) (H : Hp) : Prop := ∃ a xs, vs = [.ref a] ∧ SqL K H a xs ∧ R (Ite K a) H
def ItS (R : It → Hp → Prop) (v : V) (H : Hp) : Prop := ∃ x, v = .str x ∧ R (Its x) H
section
variable {σ : L2.St} {H : Hp} {K : PySem.W.Frag} {Q : VK} {te : TE} {tr : TA} {p p2 : Addr} {xs ys : List V} {R : It → Hp → Prop}
theorem rd_iEnum (q : tr σ H fun vs H1 => EnL K R vs H1) : iEnum K tr σ H R := q
theorem rd_EnL (h : H p = some (.lst xs)) (q : R (Ite K p) H) : EnL K R [.ref p] H := ⟨p, xs, rfl, SqL.of h, q⟩
theorem rd_iStr (q : te σ H fun v H1 => ItS R v H1) : iStr te σ H R := q
theorem rd_ItS {x : Str} (q : R (Its x) H) : ItS R (.str x) H := ⟨x, rfl, q⟩
theorem rd_inT {x : V} (h : H p = some (.tup xs)) (fx : flatV x = true) (fs : xs.all flatV = true) (q : Q (.bl (inV x xs)) H) : rIn K false x (.ref p) H Q := ⟨p, xs, rfl, .inr (SqT.of h), fx, fs, q⟩
theorem rd_rep {k : Int} (h : H p = some (.lst xs)) (k0 : 0 ≤ k) (k1 : k ≤ 1000) (hl : xs.length ≤ 10) (q : ∀ l, H l = none → Q (.ref l) (upd H l (.lst (List.replicate k.toNat xs).flatten))) : rRep (.ref p) (.int k) H Q := by
  refine ⟨p, k, xs, rfl, rfl, h, by omega, by omega, ?_, q⟩
  have e1 : xs.length * k.toNat ≤ 10 * 1000 := Nat.mul_le_mul hl (by omega)
  exact Nat.le_trans e1 (by decide)
theorem rd_ext (h : H p = some (.lst xs)) (h2 : H p2 = some (.lst ys)) (hl : xs.length + ys.length ≤ 1000) (q : Q .non (upd H p (.lst (xs ++ ys)))) : rExtend (.ref p) [.ref p2] H Q := ⟨p, p2, xs, ys, rfl, rfl, h, h2, Nat.le_of_lt (small1000 hl), q⟩
end
end Rv
/-! the mathematics of lines over looks -/
namespace Rv
open PySem PySem.Spec PyProof.Rows L2
/-- the code of a block's sign -/
def sg (e : Int) : Nat := if e = -1 then 46 else 48 + (e.fdiv 100).toNat
def one (c : Nat) : Str := ⟨#[c]⟩
def txt (cs : List Nat) : Str := ⟨cs.toArray⟩
def codes (es : List Int) : List Nat := es.map sg
def Img (es : List Int) : Prop := 1 ≤ es.length ∧ es.length ≤ 12 ∧ ∀ e ∈ es, -1 ≤ e ∧ e ≤ 999
theorem txt_len (cs : List Nat) : (txt cs).length = cs.length := by simp [txt, Str.length]
theorem txt_cps (cs : List Nat) : (txt cs).cps.toList = cs := rfl
theorem txt_inj {a b : List Nat} (h : txt a = txt b) : a = b := by
  have q := congrArg (fun z : Str => z.cps.toList) h
  exact q
theorem sgn_inj {a b : Nat} (h : one a = one b) : a = b := by
  have q := congrArg (fun z : Str => z.cps.toList) h
  simpa [one] using q
theorem digit_txt : ∀ k : Nat, k < 10 → (Str.ofString (toString (k : Int))) = one (48 + k) := by decide +kernel
theorem digit_txtI {i : Int} (h0 : 0 ≤ i) (h1 : i < 10) : Str.ofString (toString i) = one (48 + i.toNat) := by
  obtain ⟨k, rfl⟩ : ∃ k : Nat, i = (k : Int) := ⟨i.toNat, by omega⟩
  exact digit_txt k (by omega)
theorem kind_small {e : Int} (h0 : 0 ≤ e) (h1 : e ≤ 999) : 0 ≤ e.fdiv 100 ∧ e.fdiv 100 < 10 := by
  rw [Int.fdiv_eq_ediv_of_nonneg _ (by decide)]
  omega
theorem join_sg (cs : List Nat) : Txt.join (Str.ofString "") (cs.map one) = txt cs := by
  rw [TL.join_eq]
  refine TL.ext_tl ?_
  rw [TL.tl_join]
  have go : ∀ cs : List Nat, TL.joinL (TL.tl (Str.ofString "")) ((cs.map one).map TL.tl) = cs := fun cs => by
    induction cs with
    | nil => rfl
    | cons x r ih =>
      cases r with
      | nil => rfl
      | cons y r => 
        show TL.tl (one x) ++ (TL.tl (Str.ofString "") ++ TL.joinL (TL.tl (Str.ofString "")) (((y :: r).map one).map TL.tl)) = x :: y :: r
        rw [ih]
        rfl
  exact go cs
theorem ones_sum (cs : List Nat) : ((cs.map one).map (·.length)).sum = cs.length := by
  induction cs with
  | nil => rfl
  | cons x r ih =>
    simp only [List.map_cons, List.sum_cons, List.length_cons, ih]
    show 1 + r.length = r.length + 1
    omega
/-- does a guard's sign fit -/
def fitC (s v : Nat) : Bool := if s = 45 then true else if s = 42 then !decide (v = 46) else decide (s = v)
def fitsL (gs vs : List Nat) : Bool := ((gs.zip vs).map fun p => fitC p.1 p.2).all id
def Sign (c : Nat) : Prop := c = 46 ∨ c = 42 ∨ c = 45 ∨ (48 ≤ c ∧ c ≤ 57)
theorem fits_iff {gs vs : List Nat} (hl : gs.length ≤ vs.length) : fitsL gs vs = true ↔ ∀ (k : Nat) (h : k < gs.length), fitC gs[k] (vs[k]'(by omega)) = true := by
  unfold fitsL
  rw [List.all_eq_true]
  constructor
  · intro h k hk
    refine h _ (List.mem_map.mpr ⟨(gs[k], vs[k]'(by omega)), ?_, rfl⟩)
    have hz : k < (gs.zip vs).length := by rw [List.length_zip]; omega
    have e : (gs.zip vs)[k] = (gs[k], vs[k]'(by omega)) := List.getElem_zip
    rw [← e]
    exact List.getElem_mem hz
  · intro h x hx
    obtain ⟨p, hp, rfl⟩ := List.mem_map.mp hx
    obtain ⟨k, hk, e⟩ := List.mem_iff_getElem.mp hp
    rw [List.length_zip] at hk
    rw [List.getElem_zip] at e
    rw [← e]
    exact h k (by omega)
/-- a row's words -/
def sCopy : Str := Str.ofString "copy"
def sMove : Str := Str.ofString "move"
def sClear : Str := Str.ofString "clear"
structure Ln where
  w : Str
  t : Int
  o : Int
  g : List Nat
def Ln.vals (r : Ln) : List V := [.str r.w, .int r.t, .int r.o, .str (txt r.g)]
structure LnOk (n : Nat) (r : Ln) : Prop where
  t0 : 0 ≤ r.t
  t1 : r.t < n
  word : (r.w = sClear ∧ r.o = -1) ∨ ((r.w = sCopy ∨ r.w = sMove) ∧ 0 ≤ r.o ∧ r.o < n ∧ r.o ≠ r.t)
  gl : r.g = [] ∨ r.g.length = n
  gs : ∀ c ∈ r.g, Sign c
theorem LnOk.gle {n : Nat} {r : Ln} (h : LnOk n r) : r.g.length ≤ n := by
  rcases h.gl with e | e
  · rw [e]; exact Nat.zero_le _
  · rw [e]; exact Nat.le_refl _
def fullAt (vs : List Nat) (o : Int) : Bool := !decide (vs.getD o.toNat 0 = 46)
def worksL (r : Ln) (vs : List Nat) : Bool := fitsL r.g vs && (decide (r.w = sClear) || fullAt vs r.o)
def baseL (vs : List Nat) : List Int := (List.range vs.length).map fun k => if vs.getD k 0 = 46 then -1 else (k : Int)
def origL (r : Ln) (vs : List Nat) : List Int :=
  if worksL r vs = true then (if r.w = sMove then ((baseL vs).set r.t.toNat r.o).set r.o.toNat (-1) else (baseL vs).set r.t.toNat r.o) else baseL vs
def carL (held es : List Int) : List Int := held.map fun k => if k = -1 then -1 else es.getD k.toNat 0
/-- each entry is -1 or a place -/
def Held (n : Nat) (hs : List Int) : Prop := ∀ k ∈ hs, k = -1 ∨ (0 ≤ k ∧ k < n)
theorem base_len (vs : List Nat) : (baseL vs).length = vs.length := by simp [baseL]
theorem base_held (vs : List Nat) : Held vs.length (baseL vs) := fun k hk => by
  obtain ⟨j, hj, rfl⟩ := List.mem_map.mp hk
  have q := List.mem_range.mp hj
  split
  · exact .inl rfl
  · exact .inr ⟨by omega, by omega⟩
theorem orig_len (r : Ln) (vs : List Nat) : (origL r vs).length = vs.length := by
  unfold origL
  split
  · split
    · rw [List.length_set, List.length_set, base_len]
    · rw [List.length_set, base_len]
  · exact base_len vs
theorem set_held {n : Nat} {hs : List Int} {j : Nat} {x : Int} (h : Held n hs) (hx : x = -1 ∨ (0 ≤ x ∧ x < n)) : Held n (hs.set j x) := fun k hk => by
  rcases List.mem_or_eq_of_mem_set hk with q | q
  · exact h k q
  · rw [q]; exact hx
theorem LnOk.src {n : Nat} {r : Ln} (h : LnOk n r) : r.o = -1 ∨ (0 ≤ r.o ∧ r.o < n) := by
  rcases h.word with ⟨_, e⟩ | ⟨_, e1, e2, _⟩
  · exact .inl e
  · exact .inr ⟨e1, e2⟩
theorem orig_held {r : Ln} {vs : List Nat} (h : LnOk vs.length r) : Held vs.length (origL r vs) := by
  unfold origL
  split
  · split
    · exact set_held (set_held (base_held vs) h.src) (.inl rfl)
    · exact set_held (base_held vs) h.src
  · exact base_held vs
theorem car_len (hs es : List Int) : (carL hs es).length = hs.length := by simp [carL]
theorem codes_len (es : List Int) : (codes es).length = es.length := by simp [codes]
theorem getD_mem {es : List Int} {k : Nat} (h : k < es.length) : es.getD k 0 ∈ es := by
  rw [List.getD_eq_getElem?_getD, List.getElem?_eq_getElem h]
  exact List.getElem_mem h
theorem car_img {hs es : List Int} (h : Held es.length hs) (hl : hs.length = es.length) (I : Img es) : Img (carL hs es) := by
  obtain ⟨h1, h2, h3⟩ := I
  refine ⟨by rw [car_len, hl]; exact h1, by rw [car_len, hl]; exact h2, fun e he => ?_⟩
  obtain ⟨k, hk, rfl⟩ := List.mem_map.mp he
  rcases h k hk with q | ⟨q1, q2⟩
  · rw [if_pos q]; exact ⟨by decide, by decide⟩
  · rw [if_neg (by omega)]
    exact h3 _ (getD_mem (by omega))
/-- the look behind a line, by the look and by the image -/
theorem atI_ints {es : List Int} {k : Int} (h0 : 0 ≤ k) (h1 : k < es.length) : atI (es.map V.int) k = some (.int (es.getD k.toNat 0)) := by
  obtain ⟨v, e1, e2, _⟩ := atI_int (xs := es.map V.int) h0 (by rw [List.length_map]; exact h1)
  rw [e1, ← e2, List.getElem?_map, List.getD_eq_getElem?_getD, List.getElem?_eq_getElem (by omega)]
  rfl
theorem atI_cods {cs : List Nat} {k : Int} (h0 : 0 ≤ k) (h1 : k < cs.length) : atI (txt cs).cps.toList k = some (cs.getD k.toNat 0) := by
  obtain ⟨v, e1, e2, _⟩ := atI_int (xs := cs) h0 h1
  show atI cs k = _
  rw [e1, ← e2, List.getD_eq_getElem?_getD, List.getElem?_eq_getElem (by omega)]
  rfl
theorem txt_small {cs : List Nat} (h : cs.length ≤ 1000) : (txt cs).length ≤ sizeLine := by
  rw [txt_len]
  exact Nat.le_of_lt (small1000 h)
theorem car_get {hs es : List Int} {i : Nat} (hi : i < hs.length) : ((carL hs es).map V.int)[i]? = some (.int (if hs[i] = -1 then -1 else es.getD hs[i].toNat 0)) := by
  unfold carL
  rw [List.getElem?_map, List.getElem?_map, List.getElem?_eq_getElem hi]
  rfl
theorem codes_sign {es : List Int} (I : Img es) : ∀ c ∈ codes es, Sign c := fun c hc => by
  obtain ⟨e, he, rfl⟩ := List.mem_map.mp hc
  obtain ⟨h0, h1⟩ := I.2.2 e he
  unfold sg
  by_cases z : e = -1
  · rw [if_pos z]
    exact .inl rfl
  · rw [if_neg z]
    obtain ⟨k0, k1⟩ := kind_small (e := e) (by omega) h1
    exact .inr (.inr (.inr (by omega)))
theorem look_car {hs es : List Int} (h : Held es.length hs) : codes (carL hs es) = hs.map fun k => if k = -1 then 46 else (codes es).getD k.toNat 0 := by
  unfold codes carL
  rw [List.map_map]
  refine List.map_congr_left fun k hk => ?_
  show sg (if k = -1 then -1 else es.getD k.toNat 0) = _
  rcases h k hk with q | ⟨q1, q2⟩
  · rw [if_pos q, if_pos q]; rfl
  · rw [if_neg (by omega), if_neg (by omega)]
    have hk2 : k.toNat < es.length := by omega
    rw [List.getD_eq_getElem?_getD, List.getD_eq_getElem?_getD, List.getElem?_map, List.getElem?_eq_getElem hk2]
    rfl
end Rv
/-! lines one behind the other; twice is once; lists of tuples in a heap -/
namespace Rv
open PySem PySem.Spec PyProof.Rows L2
def viewL (r : Ln) (v : List Nat) : List Nat := (origL r v).map fun k => if k = -1 then 46 else v.getD k.toNat 0
def stepL (r : Ln) (es : List Int) : List Int := carL (origL r (codes es)) es
theorem orig_held2 {r : Ln} {es : List Int} (h : LnOk es.length r) : Held es.length (origL r (codes es)) := by
  have q := orig_held (r := r) (vs := codes es) (by rw [codes_len]; exact h)
  rw [codes_len] at q
  exact q
theorem step_len (r : Ln) (es : List Int) : (stepL r es).length = es.length := by
  unfold stepL
  rw [car_len, orig_len, codes_len]
theorem step_img {r : Ln} {es : List Int} (h : LnOk es.length r) (I : Img es) : Img (stepL r es) := car_img (orig_held2 h) (by rw [orig_len, codes_len]) I
theorem codes_step {r : Ln} {es : List Int} (h : LnOk es.length r) : codes (stepL r es) = viewL r (codes es) := look_car (orig_held2 h)
theorem view_len (r : Ln) (v : List Nat) : (viewL r v).length = v.length := by
  unfold viewL
  rw [List.length_map, orig_len]
theorem car_get2 {hs es : List Int} {i : Nat} (hi : i < hs.length) : (carL hs es)[i]'(by rw [car_len]; exact hi) = if hs[i] = -1 then -1 else es.getD hs[i].toNat 0 := by
  unfold carL
  rw [List.getElem_map]
theorem getD_get {es : List Int} {k : Nat} (h : k < es.length) : es.getD k 0 = es[k] := by
  rw [List.getD_eq_getElem?_getD, List.getElem?_eq_getElem h]
  rfl
theorem getD_getN {es : List Nat} {k : Nat} (h : k < es.length) : es.getD k 0 = es[k] := by
  rw [List.getD_eq_getElem?_getD, List.getElem?_eq_getElem h]
  rfl
theorem car_assoc {as bs hs : List Int} (ha : Held bs.length as) : carL as (carL bs hs) = carL (carL as bs) hs := by
  refine List.ext_getElem (by rw [car_len, car_len, car_len]) fun i h1 h2 => ?_
  have hi : i < as.length := by rw [car_len] at h1; exact h1
  have hi2 : i < (carL as bs).length := by rw [car_len]; exact hi
  rw [car_get2 hi, car_get2 hi2, car_get2 hi]
  rcases ha _ (List.getElem_mem hi) with e | ⟨e1, e2⟩
  · rw [if_pos e, if_pos e]
    rfl
  · have hn : ¬ as[i] = -1 := by omega
    have hj : as[i].toNat < bs.length := by omega
    simp only [if_neg hn]
    rw [getD_get (show as[i].toNat < (carL bs hs).length by rw [car_len]; exact hj), car_get2 hj, getD_get hj]
theorem base_get {v : List Nat} {j : Nat} (h : j < v.length) : (baseL v)[j]'(by rw [base_len]; exact h) = if v[j] = 46 then -1 else (j : Int) := by
  unfold baseL
  rw [List.getElem_map, List.getElem_range, getD_getN h]
/-- what a line's origins are, place by place -/
theorem orig_get {r : Ln} {v : List Nat} (ok : LnOk v.length r) {j : Nat} (h : j < v.length) : (origL r v)[j]'(by rw [orig_len]; exact h) =
    if worksL r v = true then (if r.w = sMove ∧ (j : Int) = r.o then -1 else if (j : Int) = r.t then r.o else if v[j] = 46 then -1 else (j : Int)) else if v[j] = 46 then -1 else (j : Int) := by
  have t0 := ok.t0
  by_cases w : worksL r v = true
  · rw [if_pos w]
    by_cases m : r.w = sMove
    · have e : origL r v = ((baseL v).set r.t.toNat r.o).set r.o.toNat (-1) := by unfold origL; rw [if_pos w, if_pos m]
      have o0 : 0 ≤ r.o := by
        rcases ok.word with ⟨q, _⟩ | ⟨_, q, _⟩
        · rw [m] at q
          exact absurd q (by decide)
        · exact q
      have g : (origL r v)[j]'(by rw [orig_len]; exact h) = (((baseL v).set r.t.toNat r.o).set r.o.toNat (-1))[j]'(by rw [List.length_set, List.length_set, base_len]; exact h) := by congr 1
      rw [g, List.getElem_set, List.getElem_set, base_get h]
      by_cases k : r.o.toNat = j
      · have hm : r.w = sMove ∧ (j : Int) = r.o := ⟨m, by omega⟩
        rw [if_pos k, if_pos hm]
      · have hm : ¬ (r.w = sMove ∧ (j : Int) = r.o) := fun q => k (by have := q.2; omega)
        rw [if_neg k, if_neg hm]
        by_cases k2 : r.t.toNat = j
        · have k3 : (j : Int) = r.t := by omega
          rw [if_pos k2, if_pos k3]
        · have k3 : ¬ (j : Int) = r.t := by omega
          rw [if_neg k2, if_neg k3]
    · have e : origL r v = (baseL v).set r.t.toNat r.o := by unfold origL; rw [if_pos w, if_neg m]
      have g : (origL r v)[j]'(by rw [orig_len]; exact h) = ((baseL v).set r.t.toNat r.o)[j]'(by rw [List.length_set, base_len]; exact h) := by congr 1
      have hm : ¬ (r.w = sMove ∧ (j : Int) = r.o) := fun q => m q.1
      rw [g, List.getElem_set, base_get h, if_neg hm]
      by_cases k2 : r.t.toNat = j
      · have k3 : (j : Int) = r.t := by omega
        rw [if_pos k2, if_pos k3]
      · have k3 : ¬ (j : Int) = r.t := by omega
        rw [if_neg k2, if_neg k3]
  · have e : origL r v = baseL v := by unfold origL; rw [if_neg w]
    have g : (origL r v)[j]'(by rw [orig_len]; exact h) = (baseL v)[j]'(by rw [base_len]; exact h) := by congr 1
    rw [g, base_get h, if_neg w]
theorem view_get {r : Ln} {v : List Nat} {j : Nat} (h : j < v.length) : (viewL r v)[j]'(by rw [view_len]; exact h) = if (origL r v)[j]'(by rw [orig_len]; exact h) = -1 then 46 else v.getD ((origL r v)[j]'(by rw [orig_len]; exact h)).toNat 0 := by
  unfold viewL
  rw [List.getElem_map]
theorem works_full {r : Ln} {v : List Nat} (w : worksL r v = true) (c : r.w ≠ sClear) : v.getD r.o.toNat 0 ≠ 46 := by
  unfold worksL at w
  rw [decide_eq_false c, Bool.false_or, Bool.and_eq_true] at w
  have q := w.2
  unfold fullAt at q
  intro k
  rw [decide_eq_true k] at q
  cases q
/-- a line that does nothing leaves the look -/
theorem view_idle {r : Ln} {v : List Nat} (ok : LnOk v.length r) (w : ¬ worksL r v = true) : viewL r v = v := by
  refine List.ext_getElem (view_len r v) fun j h1 h2 => ?_
  rw [view_get h2, orig_get ok h2, if_neg w]
  by_cases k : v[j] = 46
  · rw [if_pos k, if_pos rfl, k]
  · rw [if_neg k, if_neg (by omega), Int.toNat_natCast, getD_getN h2]
/-- where a block is full behind the line -/
theorem view_46 {r : Ln} {v : List Nat} (ok : LnOk v.length r) {j : Nat} (h : j < v.length) : (viewL r v)[j]'(by rw [view_len]; exact h) = 46 ↔ (origL r v)[j]'(by rw [orig_len]; exact h) = -1 := by
  rw [view_get h]
  constructor
  · intro q
    by_cases k : (origL r v)[j]'(by rw [orig_len]; exact h) = -1
    · exact k
    · rw [if_neg k] at q
      rw [orig_get ok h] at q k
      exfalso
      have cl : worksL r v = true → r.o ≠ -1 → r.w ≠ sClear := fun _ o c => by
        rcases ok.word with ⟨_, e⟩ | ⟨e | e, _⟩
        · exact o e
        · rw [c] at e; exact absurd e (by decide)
        · rw [c] at e; exact absurd e (by decide)
      by_cases w : worksL r v = true
      · rw [if_pos w] at q k
        by_cases m : r.w = sMove ∧ (j : Int) = r.o
        · rw [if_pos m] at k; exact k rfl
        · rw [if_neg m] at q k
          by_cases t : (j : Int) = r.t
          · rw [if_pos t] at q k
            exact works_full w (cl w k) q
          · rw [if_neg t] at q k
            by_cases f : v[j] = 46
            · rw [if_pos f] at k; exact k rfl
            · rw [if_neg f, Int.toNat_natCast, getD_getN h] at q
              exact f q
      · rw [if_neg w] at q k
        by_cases f : v[j] = 46
        · rw [if_pos f] at k; exact k rfl
        · rw [if_neg f, Int.toNat_natCast, getD_getN h] at q
          exact f q
  · intro k
    rw [if_pos k]
/-- TWICE IS ONCE -/
theorem orig_twice {r : Ln} {v : List Nat} (ok : LnOk v.length r) : carL (origL r (viewL r v)) (origL r v) = origL r v := by
  have ok2 : LnOk (viewL r v).length r := by rw [view_len]; exact ok
  refine List.ext_getElem (by rw [car_len, orig_len, orig_len, view_len]) fun j h1 h2 => ?_
  have h : j < v.length := by rw [orig_len] at h2; exact h2
  have hv : j < (viewL r v).length := by rw [view_len]; exact h
  rw [car_get2 (by rw [orig_len]; exact hv), orig_get ok2 hv]
  have stay : (if (if (viewL r v)[j] = 46 then -1 else (j : Int)) = -1 then -1 else (origL r v).getD (if (viewL r v)[j] = 46 then -1 else (j : Int)).toNat 0) = (origL r v)[j] := by
    by_cases f : (viewL r v)[j] = 46
    · rw [if_pos f, if_pos rfl]
      exact ((view_46 ok h).mp f).symm
    · rw [if_neg f, if_neg (by omega), Int.toNat_natCast, getD_get h2]
  by_cases w2 : worksL r (viewL r v) = true
  · have w : worksL r v = true := by
      by_cases w : worksL r v = true
      · exact w
      · rw [view_idle ok w] at w2
        exact w2
    rw [if_pos w2]
    have nm : r.w ≠ sMove := fun m => by
      have o0 : 0 ≤ r.o ∧ r.o < v.length := by
        rcases ok.word with ⟨q, _⟩ | ⟨_, q1, q2, _⟩
        · rw [m] at q
          exact absurd q (by decide)
        · exact ⟨q1, q2⟩
      have f := works_full w2 (by rw [m]; decide)
      have ho : r.o.toNat < v.length := by omega
      rw [getD_getN (show r.o.toNat < (viewL r v).length by rw [view_len]; exact ho)] at f
      refine f ((view_46 ok ho).mpr ?_)
      rw [orig_get ok ho, if_pos w, if_pos ⟨m, by omega⟩]
    have hm : ¬ (r.w = sMove ∧ (j : Int) = r.o) := fun q => nm q.1
    simp only [if_neg hm]
    by_cases t : (j : Int) = r.t
    · simp only [if_pos t]
      have ej : (origL r v)[j] = r.o := by rw [orig_get ok h, if_pos w, if_neg hm, if_pos t]
      rw [ej]
      by_cases o : r.o = -1
      · rw [if_pos o, o]
      · rw [if_neg o]
        have o0 : 0 ≤ r.o ∧ r.o < v.length ∧ r.o ≠ r.t := by
          rcases ok.word with ⟨_, q⟩ | ⟨_, q1, q2, q3⟩
          · exact absurd q o
          · exact ⟨q1, q2, q3⟩
        have ho : r.o.toNat < v.length := by omega
        have ne : r.w ≠ sClear := fun c => by
          rcases ok.word with ⟨_, q⟩ | ⟨q | q, _⟩
          · exact o q
          · rw [c] at q; exact absurd q (by decide)
          · rw [c] at q; exact absurd q (by decide)
        have f := works_full w ne
        rw [getD_getN ho] at f
        have hm2 : ¬ (r.w = sMove ∧ ((r.o.toNat : Nat) : Int) = r.o) := fun q => nm q.1
        have hm3 : ¬ ((r.o.toNat : Nat) : Int) = r.t := by omega
        rw [getD_get (show r.o.toNat < (origL r v).length by rw [orig_len]; exact ho), orig_get ok ho, if_pos w, if_neg hm2, if_neg hm3, if_neg f]
        omega
    · simp only [if_neg t]
      exact stay
  · rw [if_neg w2]
    exact stay
theorem step_step {r : Ln} {es : List Int} (h : LnOk es.length r) : stepL r (stepL r es) = stepL r es := by
  have e : stepL r (stepL r es) = carL (origL r (viewL r (codes es))) (stepL r es) := by
    show carL (origL r (codes (stepL r es))) (stepL r es) = _
    rw [codes_step h]
  rw [e]
  unfold stepL
  have ok : LnOk (codes es).length r := by rw [codes_len]; exact h
  rw [car_assoc, orig_twice ok]
  have q := orig_held (r := r) (vs := viewL r (codes es)) (by rw [view_len]; exact ok)
  rw [orig_len]
  rw [view_len] at q
  exact q
theorem view_view {r : Ln} {v : List Nat} {es : List Int} (h : LnOk es.length r) (e : v = codes es) : viewL r (viewL r v) = viewL r v := by
  rw [e, ← codes_step h, ← codes_step (r := r) (es := stepL r es) (by rw [step_len]; exact h), step_step h]
/-- all positions and the last -/
def runP (p : List (List Int) × List Int) (rs : List Ln) : List (List Int) × List Int := rs.foldl (fun p r => (p.1 ++ [stepL r p.2], stepL r p.2)) p
def flowP (p : List Int × List Nat) (rs : List Ln) : List Int × List Nat := rs.foldl (fun p r => (carL (origL r p.2) p.1, viewL r p.2)) p
theorem runP_add (p) (rs : List Ln) (r : Ln) : runP p (rs ++ [r]) = ((runP p rs).1 ++ [stepL r (runP p rs).2], stepL r (runP p rs).2) := by
  unfold runP
  rw [List.foldl_append]
  rfl
theorem flowP_add (p) (rs : List Ln) (r : Ln) : flowP p (rs ++ [r]) = (carL (origL r (flowP p rs).2) (flowP p rs).1, viewL r (flowP p rs).2) := by
  unfold flowP
  rw [List.foldl_append]
  rfl
/-! lists of tuples -/
def TupsAt (H : Hp) (ps : List Addr) (vss : List (List V)) : Prop := ps.length = vss.length ∧ ∀ (i : Nat) (vs : List V), vss[i]? = some vs → ∃ p, ps[i]? = some p ∧ H p = some (.tup vs)
section
variable {H H' : Hp} {ps : List Addr} {vss : List (List V)} {p : Addr} {vs : List V} {c b : Addr} {ns : List Int}
theorem TupsAt.nil : TupsAt H [] [] := ⟨rfl, fun i vs e => by simp at e⟩
theorem TupsAt.same (S : Same H H') (h : TupsAt H ps vss) : TupsAt H' ps vss := ⟨h.1, fun i vs e => by
  obtain ⟨p, e1, e2⟩ := h.2 i vs e
  exact ⟨p, e1, S _ _ e2⟩⟩
theorem TupsAt.wd (w : Wd c ns b H H') (h : TupsAt H ps vss) : TupsAt H' ps vss := ⟨h.1, fun i vs e => by
  obtain ⟨p, e1, e2⟩ := h.2 i vs e
  exact ⟨p, e1, w.tup e2⟩⟩
/-- an object that is no tuple changes -/
theorem TupsAt.mut {a : Addr} {xs : List V} {o : HO} (ha : H a = some (.lst xs)) (h : TupsAt H ps vss) : TupsAt (upd H a o) ps vss := ⟨h.1, fun i vs e => by
  obtain ⟨p, e1, e2⟩ := h.2 i vs e
  exact ⟨p, e1, by rw [upd_ne (ne_of e2 ha (by intro z; cases z))]; exact e2⟩⟩
theorem TupsAt.app (h : TupsAt H ps vss) (hp : H p = some (.tup vs)) : TupsAt H (ps ++ [p]) (vss ++ [vs]) := ⟨by rw [List.length_append, List.length_append, h.1]; rfl, fun i us e => by
  by_cases k : i < vss.length
  · rw [List.getElem?_append_left k] at e
    obtain ⟨q, e1, e2⟩ := h.2 i us e
    exact ⟨q, by rw [List.getElem?_append_left (by rw [h.1]; exact k)]; exact e1, e2⟩
  · rw [List.getElem?_append_right (by omega)] at e
    have hi : i - vss.length = 0 := by
      have := (List.getElem?_eq_some_iff.mp e).1
      simp at this
      omega
    rw [hi] at e
    have e3 : vs = us := by simpa using e
    refine ⟨p, ?_, e3 ▸ hp⟩
    rw [List.getElem?_append_right (by rw [h.1]; omega), h.1, hi]
    rfl⟩
theorem TupsAt.get (h : TupsAt H ps vss) {i : Nat} (hi : i < vss.length) : ∃ p, ps[i]? = some p ∧ H p = some (.tup vss[i]) := h.2 i _ (List.getElem?_eq_getElem hi)
theorem TupsAt.take (h : TupsAt H ps vss) (k : Nat) : TupsAt H (ps.take k) (vss.take k) := ⟨by rw [List.length_take, List.length_take, h.1], fun i vs e => by
  have hi : i < k := by
    have := (List.getElem?_eq_some_iff.mp e).1
    rw [List.length_take] at this
    omega
  rw [List.getElem?_take_of_lt hi] at e
  obtain ⟨q, e1, e2⟩ := h.2 i vs e
  exact ⟨q, by rw [List.getElem?_take_of_lt hi]; exact e1, e2⟩⟩
theorem TupsAt.drop (h : TupsAt H ps vss) (k : Nat) : TupsAt H (ps.drop k) (vss.drop k) := ⟨by rw [List.length_drop, List.length_drop, h.1], fun i vs e => by
  rw [List.getElem?_drop] at e
  obtain ⟨q, e1, e2⟩ := h.2 _ vs e
  exact ⟨q, by rw [List.getElem?_drop]; exact e1, e2⟩⟩
theorem TupsAt.rep (h : TupsAt H ps vss) (hp : H p = some (.tup vs)) : ∀ m : Nat, TupsAt H (ps ++ List.replicate m p) (vss ++ List.replicate m vs)
  | 0 => by simpa using h
  | m + 1 => by
    have q := (TupsAt.rep h hp m).app hp
    rw [List.append_assoc, List.append_assoc] at q
    have e1 : List.replicate m p ++ [p] = List.replicate (m + 1) p := by rw [List.replicate_succ']
    have e2 : List.replicate m vs ++ [vs] = List.replicate (m + 1) vs := by rw [List.replicate_succ']
    rw [e1, e2] at q
    exact q
end
def rows (rs : List Ln) : List (List V) := rs.map Ln.vals
def imgs (ess : List (List Int)) : List (List V) := ess.map fun es => es.map V.int
theorem rows_len (rs : List Ln) : (rows rs).length = rs.length := by simp [rows]
theorem rows_get {rs : List Ln} {i : Nat} (h : i < rs.length) : (rows rs)[i]? = some rs[i].vals := by
  unfold rows
  rw [List.getElem?_map, List.getElem?_eq_getElem h]
  rfl
theorem imgs_len (ess : List (List Int)) : (imgs ess).length = ess.length := by simp [imgs]
theorem imgs_app (a b : List (List Int)) : imgs (a ++ b) = imgs a ++ imgs b := List.map_append
theorem rows_app (a b : List Ln) : rows (a ++ b) = rows a ++ rows b := List.map_append
theorem imgs_rep (m : Nat) (e : List Int) : imgs (List.replicate m e) = List.replicate m (e.map V.int) := List.map_replicate
theorem rows_rep (m : Nat) (r : Ln) : rows (List.replicate m r) = List.replicate m r.vals := List.map_replicate
theorem take_ok {n : Nat} {rs : List Ln} {i : Nat} (h : ∀ r ∈ rs, LnOk n r) : ∀ r ∈ rs.take i, LnOk n r := fun r hr => h r (List.mem_of_mem_take hr)
theorem take_next {α : Type} {rs : List α} {i : Nat} (h : i < rs.length) : rs.take (i + 1) = rs.take i ++ [rs[i]] := by
  rw [List.take_add_one, List.getElem?_eq_getElem h]
  rfl
/-- what holds of a path -/
theorem runP_ok {es : List Int} (I : Img es) : ∀ (m : Nat) (rs : List Ln), rs.length = m → (∀ r ∈ rs, LnOk es.length r) →
    Img (runP ([es], es) rs).2 ∧ (runP ([es], es) rs).2.length = es.length ∧ (runP ([es], es) rs).1.getLast? = some (runP ([es], es) rs).2 ∧ (runP ([es], es) rs).1.length = rs.length + 1
  | 0, rs, e, h => by
    have e2 : rs = [] := List.length_eq_zero_iff.mp e
    subst e2
    exact ⟨I, rfl, rfl, rfl⟩
  | m + 1, rs, e, h => by
    have ne : rs ≠ [] := fun z => by rw [z] at e; cases e
    obtain ⟨init, r, rfl⟩ : ∃ init r, rs = init ++ [r] := ⟨rs.dropLast, rs.getLast ne, (List.dropLast_concat_getLast ne).symm⟩
    rw [List.length_append] at e
    obtain ⟨h1, h2, h3, h4⟩ := runP_ok I m init (by simpa using e) (fun r hr => h r (List.mem_append_left _ hr))
    have hr : LnOk (runP ([es], es) init).2.length r := by rw [h2]; exact h r (by simp)
    rw [runP_add]
    refine ⟨step_img hr h1, by rw [step_len, h2], by simp, by simp [h4]⟩
theorem flowP_ok {cs : List Nat} : ∀ (m : Nat) (rs : List Ln), rs.length = m → (flowP (baseL cs, cs) rs).1.length = cs.length ∧ (flowP (baseL cs, cs) rs).2.length = cs.length
  | 0, rs, e => by
    have e2 : rs = [] := List.length_eq_zero_iff.mp e
    subst e2
    exact ⟨base_len cs, rfl⟩
  | m + 1, rs, e => by
    have ne : rs ≠ [] := fun z => by rw [z] at e; cases e
    obtain ⟨init, r, rfl⟩ : ∃ init r, rs = init ++ [r] := ⟨rs.dropLast, rs.getLast ne, (List.dropLast_concat_getLast ne).symm⟩
    rw [List.length_append] at e
    obtain ⟨h1, h2⟩ := flowP_ok (cs := cs) m init (by simpa using e)
    rw [flowP_add]
    exact ⟨by rw [car_len, orig_len]; exact h2, by rw [view_len]; exact h2⟩
/-- the look along a run is the look of the images -/
theorem flow_look {es : List Int} (I : Img es) : ∀ (m : Nat) (rs : List Ln), rs.length = m → (∀ r ∈ rs, LnOk es.length r) → (flowP (baseL (codes es), codes es) rs).2 = codes (runP ([es], es) rs).2
  | 0, rs, e, h => by
    have e2 : rs = [] := List.length_eq_zero_iff.mp e
    subst e2
    rfl
  | m + 1, rs, e, h => by
    have ne : rs ≠ [] := fun z => by rw [z] at e; cases e
    obtain ⟨init, r, rfl⟩ : ∃ init r, rs = init ++ [r] := ⟨rs.dropLast, rs.getLast ne, (List.dropLast_concat_getLast ne).symm⟩
    rw [List.length_append] at e
    have hi : ∀ r ∈ init, LnOk es.length r := fun r hr => h r (List.mem_append_left _ hr)
    have ih := flow_look I m init (by simpa using e) hi
    obtain ⟨_, h2, _, _⟩ := runP_ok I init.length init rfl hi
    rw [flowP_add, runP_add, ih]
    exact (codes_step (by rw [h2]; exact h r (by simp))).symm
theorem runP_rep {p : List (List Int) × List Int} {r : Ln} (ok : LnOk p.2.length r) : ∀ m : Nat, runP p (List.replicate (m + 1) r) = (p.1 ++ List.replicate (m + 1) (stepL r p.2), stepL r p.2)
  | 0 => rfl
  | m + 1 => by
    have e : List.replicate (m + 1 + 1) r = List.replicate (m + 1) r ++ [r] := List.replicate_succ'
    have e2 : List.replicate (m + 1 + 1) (stepL r p.2) = List.replicate (m + 1) (stepL r p.2) ++ [stepL r p.2] := List.replicate_succ'
    rw [e, runP_add, runP_rep ok m, e2, step_step ok, List.append_assoc]
theorem runP_app (p) (as bs : List Ln) : runP p (as ++ bs) = runP (runP p as) bs := by unfold runP; rw [List.foldl_append]
theorem flowP_app (p) (as bs : List Ln) : flowP p (as ++ bs) = flowP (flowP p as) bs := by unfold flowP; rw [List.foldl_append]
theorem flowP_rep {h : List Int} {es : List Int} {r : Ln} (hl : h.length = es.length) (ok : LnOk es.length r) : ∀ m : Nat, flowP (h, codes es) (List.replicate (m + 1) r) = (carL (origL r (codes es)) h, viewL r (codes es))
  | 0 => rfl
  | m + 1 => by
    have e : List.replicate (m + 1 + 1) r = List.replicate (m + 1) r ++ [r] := List.replicate_succ'
    have okc : LnOk (codes es).length r := by rw [codes_len]; exact ok
    rw [e, flowP_add, flowP_rep hl ok m]
    have q := orig_held (r := r) (vs := viewL r (codes es)) (by rw [view_len]; exact okc)
    rw [view_len] at q
    show (carL (origL r (viewL r (codes es))) (carL (origL r (codes es)) h), viewL r (viewL r (codes es))) = _
    rw [car_assoc (by rw [orig_len]; exact q), orig_twice okc, view_view ok rfl]
/-- the last of a list of tuples -/
theorem TupsAt.last {H : Hp} {ps : List Addr} {vss : List (List V)} {vs : List V} (h : TupsAt H ps vss) (e : vss.getLast? = some vs) : ∃ init q, ps = init ++ [q] ∧ H q = some (.tup vs) := by
  rw [List.getLast?_eq_getElem?] at e
  obtain ⟨q, e1, e2⟩ := h.2 _ _ e
  have hv := (List.getElem?_eq_some_iff.mp e).1
  have hp := h.1
  have ne : ps ≠ [] := fun z => by rw [z] at hp; simp at hp; omega
  refine ⟨ps.dropLast, q, ?_, e2⟩
  have l : ps.getLast ne = q := by
    rw [← hp] at e1
    rw [List.getLast_eq_getElem]
    exact (List.getElem?_eq_some_iff.mp e1).2
  rw [← l]
  exact (List.dropLast_concat_getLast ne).symm
theorem imgs_last {ess : List (List Int)} {es : List Int} (h : ess.getLast? = some es) : (imgs ess).getLast? = some (es.map V.int) := by
  unfold imgs
  rw [List.getLast?_map, h]
  rfl
theorem base_codes {es : List Int} (I : Img es) {k : Nat} (h : k < es.length) : (baseL (codes es))[k]'(by rw [base_len, codes_len]; exact h) = if es[k] = -1 then -1 else (k : Int) := by
  rw [base_get (by rw [codes_len]; exact h)]
  have e : (codes es)[k]'(by rw [codes_len]; exact h) = sg es[k] := by
    unfold codes
    rw [List.getElem_map]
  rw [e]
  obtain ⟨h0, h1⟩ := I.2.2 _ (List.getElem_mem h)
  by_cases z : es[k] = -1
  · rw [if_pos z, if_pos (by rw [z]; rfl)]
  · have z2 : ¬ sg es[k] = 46 := by
      unfold sg
      rw [if_neg z]
      omega
    rw [if_neg z, if_neg z2]
theorem rep_flat {α : Type} (x : α) : ∀ m : Nat, (List.replicate m [x]).flatten = List.replicate m x
  | 0 => rfl
  | m + 1 => by
    rw [List.replicate_succ, List.flatten_cons, rep_flat x m]
    rfl
theorem runP_all {es : List Int} : ∀ (m : Nat) (rs : List Ln), rs.length = m → (∀ x ∈ (runP ([es], es) rs).1, x.length = es.length) ∧ (runP ([es], es) rs).2.length = es.length
  | 0, rs, e => by
    have e2 : rs = [] := List.length_eq_zero_iff.mp e
    subst e2
    exact ⟨fun x hx => by rw [List.mem_singleton.mp hx], rfl⟩
  | m + 1, rs, e => by
    have ne : rs ≠ [] := fun z => by rw [z] at e; cases e
    obtain ⟨init, r, rfl⟩ : ∃ init r, rs = init ++ [r] := ⟨rs.dropLast, rs.getLast ne, (List.dropLast_concat_getLast ne).symm⟩
    rw [List.length_append] at e
    obtain ⟨h1, h2⟩ := runP_all (es := es) m init (by simpa using e)
    rw [runP_add]
    refine ⟨fun x hx => ?_, by rw [step_len, h2]⟩
    rcases List.mem_append.mp hx with k | k
    · exact h1 x k
    · rw [List.mem_singleton.mp k, step_len, h2]
end Rv
/-! flows; texts repeated; lists of lines compared -/
namespace Rv
open PySem PySem.Spec PyProof.Rows L2
theorem fold_reps (c : Nat) : ∀ (m : Nat) (acc : Array Nat), ((List.replicate m (one c).cps).foldl (· ++ ·) acc).toList = acc.toList ++ List.replicate m c
  | 0, acc => by simp
  | m + 1, acc => by
    rw [List.replicate_succ, List.foldl_cons, fold_reps c m, Array.toList_append, List.append_assoc]
    rfl
def rMulZ : R2 := fun x y H Q => ∃ c n : Nat, x = .str (one c) ∧ y = .int n ∧ 1 ≤ n ∧ n ≤ 12 ∧ Q (.str (txt (List.replicate n c))) H
theorem op_mulZ {X : Cx} : OpR X (binaryOp .Mult) rMulZ := by
  intro pins s σ H x y v u Q I rx ry h
  obtain ⟨c, n, rfl, rfl, n1, n12, q⟩ := h
  obtain ⟨t, rfl⟩ := rx
  obtain ⟨t', rfl⟩ := ry
  have l1 : (one c).length = 1 := rfl
  have ok : MulOk (one c) (n : Int) := by
    refine ⟨?_, fun _ _ => ?_, fun _ _ => ?_⟩
    · rw [Bool.or_eq_false_iff]
      exact ⟨decide_eq_false (by omega), decide_eq_false (by omega)⟩
    · rw [l1]
      have : (1 : Int) ≤ (2 ^ 63 - 1) / (n : Int) := by
        rw [Int.le_ediv_iff_mul_le (by omega)]
        omega
      omega
    · rw [l1, Int.toNat_natCast, Nat.one_mul]
      have hn : n = 1 ∨ n = 2 ∨ n = 3 ∨ n = 4 ∨ n = 5 ∨ n = 6 ∨ n = 7 ∨ n = 8 ∨ n = 9 ∨ n = 10 ∨ n = 11 ∨ n = 12 := by omega
      rcases hn with k | k | k | k | k | k | k | k | k | k | k | k <;> rw [k] <;> decide
  have e : Txt.mul (one c) (n : Int) = txt (List.replicate n c) := by
    unfold Txt.mul
    rw [if_neg (by omega)]
    by_cases k : n = 1
    · subst k
      rfl
    · have f : ((n : Int) == 1 || (one c).length == 0) = false := by
        rw [Bool.or_eq_false_iff]
        exact ⟨beq_eq_false_iff_ne.mpr (by omega), rfl⟩
      rw [f, if_neg Bool.false_ne_true, Int.toNat_natCast]
      refine TL.ext_tl ?_
      show ((List.replicate n (one c).cps).foldl (· ++ ·) #[]).toList = List.replicate n c
      rw [fold_reps]
      rfl
  refine SB.mul ok fun t2 k => ?_
  rw [e]
  exact ⟨.str (txt (List.replicate n c)), H, I.tok _, ⟨_, rfl⟩, q⟩
theorem rd_mulZ {c n : Nat} {H : Hp} {Q : VK} (n1 : 1 ≤ n) (n12 : n ≤ 12) (q : Q (.str (txt (List.replicate n c))) H) : rMulZ (.str (one c)) (.int n) H Q := ⟨c, n, rfl, rfl, n1, n12, q⟩
theorem rd_lstRg {te : L2.St → Hp → (Int → Int → Hp → Prop) → Prop} {σ : L2.St} {H : Hp} {Q : VK} (q : te σ H fun a b H1 => RgOk a b ∧ ∀ q, H1 q = none → Q (.ref q) (upd H1 q (.lst (rgV a b)))) : tLstRg te σ H Q := q
theorem rd_tRg1 {ta : TE} {σ : L2.St} {H : Hp} {QI : Int → Int → Hp → Prop} (q : ta σ H fun x H1 => ∃ n, x = .int n ∧ QI 0 n H1) : tRg1 ta σ H QI := q
def own (n : Nat) : List Int := (List.range n).map fun (i : Nat) => (i : Int)
theorem rg_own (n : Nat) : rgV 0 (n : Int) = (own n).map V.int := by
  unfold rgV own
  rw [List.map_map]
  have e : ((n : Int) - 0).toNat = n := by omega
  rw [e]
  refine List.map_congr_left fun i _ => ?_
  show V.int (0 + (i : Int)) = V.int (i : Int)
  rw [Int.zero_add]
theorem own_len (n : Nat) : (own n).length = n := by simp [own]
theorem own_img {n : Nat} (n1 : 1 ≤ n) (n12 : n ≤ 12) : Img (own n) := by
  refine ⟨by rw [own_len]; exact n1, by rw [own_len]; exact n12, fun e he => ?_⟩
  obtain ⟨i, hi, rfl⟩ := List.mem_map.mp he
  have := List.mem_range.mp hi
  omega
theorem own_codes {n : Nat} (n12 : n ≤ 12) : codes (own n) = List.replicate n 48 := by
  refine List.eq_replicate_iff.mpr ⟨by rw [codes_len, own_len], fun b hb => ?_⟩
  obtain ⟨e, he, rfl⟩ := List.mem_map.mp hb
  obtain ⟨i, hi, rfl⟩ := List.mem_map.mp he
  have := List.mem_range.mp hi
  unfold sg
  rw [if_neg (by omega), Int.fdiv_eq_ediv_of_nonneg _ (by decide)]
  omega
theorem car_own {n : Nat} {hs : List Int} (h : Held n hs) : carL hs (own n) = hs := by
  refine List.ext_getElem (by rw [car_len]) fun i h1 h2 => ?_
  rw [car_get2 h2]
  rcases h _ (List.getElem_mem h2) with k | ⟨k1, k2⟩
  · rw [if_pos k, k]
  · rw [if_neg (by omega), getD_get (by rw [own_len]; omega)]
    unfold own
    rw [List.getElem_map, List.getElem_range]
    omega
theorem car_base {v : List Nat} {h : List Int} (hl : h.length = v.length) (hv : ∀ (j : Nat) (k : j < v.length), v[j] = 46 → h[j]'(by omega) = -1) : carL (baseL v) h = h := by
  refine List.ext_getElem (by rw [car_len, base_len, hl]) fun i h1 h2 => ?_
  have hi : i < v.length := by omega
  rw [car_get2 (by rw [base_len]; exact hi), base_get hi]
  by_cases f : v[i] = 46
  · have e : (if v[i] = 46 then (-1 : Int) else (i : Int)) = -1 := if_pos f
    rw [e, if_pos rfl]
    exact (hv i hi f).symm
  · have e : (if v[i] = 46 then (-1 : Int) else (i : Int)) = (i : Int) := if_neg f
    rw [e, if_neg (by omega), Int.toNat_natCast, getD_get h2]
theorem base_held2 (v : List Nat) : Held v.length (baseL v) := base_held v
theorem car_held {n : Nat} {as hs : List Int} (ha : Held hs.length as) (hh : Held n hs) : Held n (carL as hs) := fun k hk => by
  obtain ⟨j, hj, rfl⟩ := List.mem_map.mp hk
  rcases ha j hj with e | ⟨e1, e2⟩
  · rw [if_pos e]; exact .inl rfl
  · rw [if_neg (by omega)]
    exact hh _ (getD_mem (by omega))
/-- what holds along a flow -/
def FInv (cs : List Nat) (p : List Int × List Nat) : Prop :=
  Held cs.length p.1 ∧ ∀ (j : Nat) (k1 : j < p.1.length) (k2 : j < p.2.length), p.1[j] = -1 ↔ p.2[j] = 46
theorem flow_turn {cs v : List Nat} {h : List Int} {r : Ln} (f1 : h.length = cs.length) (f2 : v.length = cs.length) (okr : LnOk v.length r) (F : FInv cs (h, v)) : FInv cs (carL (origL r v) h, viewL r v) := by
  obtain ⟨h1, h2⟩ := F
  have h2' : ∀ (j : Nat) (k1 : j < h.length) (k2 : j < v.length), h[j] = -1 ↔ v[j] = 46 := h2
  have ho := orig_held okr
  have hoh : Held h.length (origL r v) := by rw [f1, ← f2]; exact ho
  refine ⟨car_held hoh h1, fun j k1 k2 => ?_⟩
  have k2' : j < (viewL r v).length := k2
  have kv : j < v.length := by rw [view_len] at k2'; exact k2'
  have g : (carL (origL r v) h)[j]'k1 = _ := car_get2 (es := h) (by rw [orig_len]; exact kv)
  have g2 : (viewL r v)[j]'k2' = 46 ↔ _ := view_46 okr kv
  show (carL (origL r v) h)[j]'k1 = -1 ↔ (viewL r v)[j]'k2' = 46
  rw [g2, g]
  constructor
  · intro q
    by_cases o : (origL r v)[j]'(by rw [orig_len]; exact kv) = -1
    · exact o
    · rw [if_neg o] at q
      rcases ho _ (List.getElem_mem (show j < (origL r v).length by rw [orig_len]; exact kv)) with z | ⟨z1, z2⟩
      · exact z
      · have hk : ((origL r v)[j]'(by rw [orig_len]; exact kv)).toNat < v.length := by omega
        rw [getD_get (show _ < h.length by omega)] at q
        have q2 := (h2' _ (by omega) hk).mp q
        refine g2.mp ?_
        rw [view_get kv, if_neg o, getD_getN hk]
        exact q2
  · intro q
    rw [if_pos q]
theorem flow_inv {cs : List Nat} : ∀ (m : Nat) (rs : List Ln), rs.length = m → (∀ r ∈ rs, LnOk cs.length r) → FInv cs (flowP (baseL cs, cs) rs)
  | 0, rs, e, ok => by
    have e2 : rs = [] := List.length_eq_zero_iff.mp e
    subst e2
    refine ⟨base_held cs, fun j k1 k2 => ?_⟩
    have k3 : j < cs.length := k2
    have b : (flowP (baseL cs, cs) []).1[j]'k1 = if cs[j] = 46 then -1 else (j : Int) := base_get k3
    rw [b]
    show _ ↔ cs[j] = 46
    by_cases f : cs[j] = 46
    · rw [if_pos f]
      exact ⟨fun _ => f, fun _ => rfl⟩
    · rw [if_neg f]
      exact ⟨fun q => by omega, fun q => absurd q f⟩
  | m + 1, rs, e, ok => by
    have ne : rs ≠ [] := fun z => by rw [z] at e; cases e
    obtain ⟨init, r, rfl⟩ : ∃ init r, rs = init ++ [r] := ⟨rs.dropLast, rs.getLast ne, (List.dropLast_concat_getLast ne).symm⟩
    rw [List.length_append] at e
    have ih := flow_inv (cs := cs) m init (by simpa using e) (fun r hr => ok r (List.mem_append_left _ hr))
    obtain ⟨f1, f2⟩ := flowP_ok (cs := cs) init.length init rfl
    rw [flowP_add]
    exact flow_turn f1 f2 (by rw [f2]; exact ok r (by simp)) ih
theorem flow_img {es : List Int} (I : Img es) : ∀ (m : Nat) (rs : List Ln), rs.length = m → (∀ r ∈ rs, LnOk es.length r) → carL (flowP (baseL (codes es), codes es) rs).1 es = (runP ([es], es) rs).2
  | 0, rs, e, ok => by
    have e2 : rs = [] := List.length_eq_zero_iff.mp e
    subst e2
    refine car_base (codes_len es).symm fun j k q => ?_
    have k2 : j < es.length := by rw [codes_len] at k; exact k
    have b := base_codes I k2
    rw [base_get k, if_pos q] at b
    by_cases z : es[j] = -1
    · exact z
    · rw [if_neg z] at b
      omega
  | m + 1, rs, e, ok => by
    have ne : rs ≠ [] := fun z => by rw [z] at e; cases e
    obtain ⟨init, r, rfl⟩ : ∃ init r, rs = init ++ [r] := ⟨rs.dropLast, rs.getLast ne, (List.dropLast_concat_getLast ne).symm⟩
    rw [List.length_append] at e
    have oki : ∀ r ∈ init, LnOk es.length r := fun r hr => ok r (List.mem_append_left _ hr)
    have ih := flow_img I m init (by simpa using e) oki
    have lk := flow_look I _ init rfl oki
    obtain ⟨f1, f2⟩ := flowP_ok (cs := codes es) init.length init rfl
    have okr : LnOk (flowP (baseL (codes es), codes es) init).2.length r := by rw [f2, codes_len]; exact ok r (by simp)
    have ho := orig_held okr
    rw [flowP_add, runP_add, ← car_assoc (by rw [f1, ← f2]; exact ho), ih, lk]
    rfl
/-- a flow in two parts -/
theorem flow_join {cs : List Nat} {as : List Ln} (oka : ∀ r ∈ as, LnOk cs.length r) : ∀ (m : Nat) (bs : List Ln), bs.length = m → (∀ r ∈ bs, LnOk cs.length r) →
    flowP (baseL cs, cs) (as ++ bs) = (carL (flowP (baseL (flowP (baseL cs, cs) as).2, (flowP (baseL cs, cs) as).2) bs).1 (flowP (baseL cs, cs) as).1, (flowP (baseL (flowP (baseL cs, cs) as).2, (flowP (baseL cs, cs) as).2) bs).2)
  | 0, bs, e, ok => by
    have e2 : bs = [] := List.length_eq_zero_iff.mp e
    subst e2
    obtain ⟨f1, f2⟩ := flowP_ok (cs := cs) as.length as rfl
    obtain ⟨_, h2⟩ := flow_inv (cs := cs) as.length as rfl oka
    rw [List.append_nil]
    have c := car_base (v := (flowP (baseL cs, cs) as).2) (h := (flowP (baseL cs, cs) as).1) (by omega) fun j k q => (h2 j (by omega) k).mpr q
    show flowP (baseL cs, cs) as = (carL (baseL (flowP (baseL cs, cs) as).2) (flowP (baseL cs, cs) as).1, (flowP (baseL cs, cs) as).2)
    rw [c]
  | m + 1, bs, e, ok => by
    have ne : bs ≠ [] := fun z => by rw [z] at e; cases e
    obtain ⟨init, r, rfl⟩ : ∃ init r, bs = init ++ [r] := ⟨bs.dropLast, bs.getLast ne, (List.dropLast_concat_getLast ne).symm⟩
    rw [List.length_append] at e
    have oki : ∀ r ∈ init, LnOk cs.length r := fun r hr => ok r (List.mem_append_left _ hr)
    have ih := flow_join oka m init (by simpa using e) oki
    obtain ⟨f1, f2⟩ := flowP_ok (cs := cs) as.length as rfl
    obtain ⟨g1, g2⟩ := flowP_ok (cs := (flowP (baseL cs, cs) as).2) init.length init rfl
    rw [← List.append_assoc, flowP_add, ih, flowP_add]
    have okr : LnOk (flowP (baseL (flowP (baseL cs, cs) as).2, (flowP (baseL cs, cs) as).2) init).2.length r := by rw [g2, f2]; exact ok r (by simp)
    have ho := orig_held okr
    show (carL (origL r _) (carL _ _), _) = _
    rw [car_assoc (by rw [g1, ← g2]; exact ho)]
/-- slices -/
theorem cut_to {xs : List V} {k : Nat} (h : k ≤ xs.length) : cutV xs none (some (k : Int)) = xs.take k := by
  unfold cutV
  rw [HT.sIx_none, HT.sIx_nat, Nat.min_eq_left h, List.drop_zero, Nat.sub_zero]
theorem cut_from {xs : List V} {k : Nat} (h : k ≤ xs.length) : cutV xs (some (k : Int)) none = xs.drop k := by
  unfold cutV
  rw [HT.sIx_none, HT.sIx_nat, Nat.min_eq_left h]
  exact List.take_of_length_le (by rw [List.length_drop]; exact Nat.le_refl _)
/-! deep comparisons -/
def lnD (r : Ln) : PyData := .tuple [.str r.w, .int r.t, .int r.o, .str (txt r.g)]
theorem dp_rows {K : PySem.W.Frag} {H : Hp} : ∀ (rs : List Ln) (ps : List Addr), TupsAt H ps (rows rs) → DpAll K H (ps.map V.ref) (rs.map lnD)
  | [], ps, h => by
    have e : ps = [] := List.length_eq_zero_iff.mp h.1
    subst e
    exact .nil
  | r :: rs, [], h => by
    have := h.1
    simp [rows] at this
  | r :: rs, p :: ps, h => by
    obtain ⟨p', e1, e2⟩ := h.2 0 r.vals rfl
    have e3 : p = p' := by simpa using e1
    subst e3
    refine .cons (.tup (SqT.of e2) (.cons (.str _) (.cons (.int _) (.cons (.int _) (.cons (.str _) .nil))))) (dp_rows rs ps ⟨by simpa [rows] using h.1, fun i vs e => ?_⟩)
    obtain ⟨q, q1, q2⟩ := h.2 (i + 1) vs (by simpa [rows] using e)
    exact ⟨q, by simpa using q1, q2⟩
theorem lay_ln {n : Nat} {r : Ln} (ok : LnOk n r) : PyData.canLay0 (lnD r) = true ∧ PyData.depth (lnD r) = 1 := by
  constructor
  · show (PyData.strOk r.w && (true && (true && (PyData.strOk (txt r.g) && true)))) = true
    have h1 : PyData.strOk r.w = true := by
      rcases ok.word with ⟨e, _⟩ | ⟨e | e, _⟩ <;> rw [e] <;> decide +kernel
    have h2 : PyData.strOk (txt r.g) = true := by
      unfold PyData.strOk txt
      rw [Array.all_eq_true]
      intro i hi
      have hi2 : i < r.g.length := by simpa using hi
      have := ok.gs _ (List.getElem_mem hi2)
      unfold Sign at this
      simp
      omega
    rw [h1, h2]
    rfl
  · rfl
theorem lay_rows {n : Nat} : ∀ rs : List Ln, (∀ r ∈ rs, LnOk n r) → PyData.canLayAll0 (rs.map lnD) = true ∧ PyData.depthAll (rs.map lnD) ≤ 1
  | [], _ => ⟨rfl, Nat.zero_le _⟩
  | r :: rs, h => by
    obtain ⟨a1, a2⟩ := lay_ln (h r (List.mem_cons_self ..))
    obtain ⟨b1, b2⟩ := lay_rows rs fun r hr => h r (List.mem_cons_of_mem _ hr)
    constructor
    · show (PyData.canLay0 (lnD r) && PyData.canLayAll0 (rs.map lnD)) = true
      rw [a1, b1]
      rfl
    · show max (PyData.depth (lnD r)) (PyData.depthAll (rs.map lnD)) ≤ 1
      omega
theorem rd_neRows {K : PySem.W.Frag} {H : Hp} {Q : VK} {p p2 : Addr} {ps : List Addr} {rs : List Ln} {n : Nat} (h : H p = some (.lst (ps.map V.ref))) (h2 : H p2 = some (.lst (ps.map V.ref))) (t : TupsAt H ps (rows rs)) (ok : ∀ r ∈ rs, LnOk n r) (q : Q (.bl false) H) : rNeD K (.ref p) (.ref p2) H Q := by
  obtain ⟨a1, a2⟩ := lay_rows rs ok
  have sh : SeqAt.shaped (.list (rs.map lnD)) = true := by
    unfold SeqAt.shaped
    rw [Bool.and_eq_true]
    refine ⟨a1, decide_eq_true ?_⟩
    show PyData.depthAll (rs.map lnD) + 1 ≤ 64
    omega
  refine ⟨_, _, .lst (SqL.of h) (dp_rows rs ps t), .lst (SqL.of h2) (dp_rows rs ps t), sh, sh, ?_⟩
  have e : PyData.eqv (.list (rs.map lnD)) (.list (rs.map lnD)) = true := SeqAt.eqv_refl _ a1
  rw [e]
  exact q
theorem rd_eqInts {K : PySem.W.Frag} {H : Hp} {Q : VK} {p p2 : Addr} {xs : List Int} (h : H p = some (.tup (xs.map V.int))) (h2 : H p2 = some (.tup (xs.map V.int))) (q : Q (.bl true) H) : rEqD K (.ref p) (.ref p2) H Q := by
  obtain ⟨a1, a2⟩ := lay_ints xs
  have sh : SeqAt.shaped (.tuple (xs.map PyData.int)) = true := by
    unfold SeqAt.shaped
    rw [Bool.and_eq_true]
    refine ⟨a1, decide_eq_true ?_⟩
    show PyData.depthAll (xs.map PyData.int) + 1 ≤ 64
    omega
  refine ⟨_, _, .tup (SqT.of h) (dp_ints xs), .tup (SqT.of h2) (dp_ints xs), sh, sh, ?_⟩
  have e : PyData.eqv (.tuple (xs.map PyData.int)) (.tuple (xs.map PyData.int)) = true := SeqAt.eqv_refl _ a1
  rw [e]
  exact q
end Rv
namespace K03
open PySem PySem.Spec PyProof.Rows L2 Rv
def top (i : Nat) : Stmt := PySem.Challenge.pw_redolots_k03_whole_flow.main.body.getD i (.Pass ⟨0, 0, 0, 0⟩)
abbrev scheck_image : Stmt := top 8
theorem sccheck_image : FnScope ["image", "block", "entry"] ["image"] (defScope scheck_image) := ⟨rfl, rfl, rfl, by decide +kernel, rfl, by decide +kernel, by decide +kernel⟩
abbrev slook : Stmt := top 9
theorem sclook : FnScope ["image", "entry"] ["image"] (defScope slook) := ⟨rfl, rfl, rfl, by decide +kernel, rfl, by decide +kernel, by decide +kernel⟩
abbrev s_sign : Stmt := top 10
theorem sc_sign : FnScope ["entry"] ["entry"] (defScope s_sign) := ⟨rfl, rfl, rfl, by decide +kernel, rfl, by decide +kernel, by decide +kernel⟩
abbrev scheck_script : Stmt := top 14
theorem sccheck_script : FnScope ["script", "image", "at", "line"] ["script", "image"] (defScope scheck_script) := ⟨rfl, rfl, rfl, by decide +kernel, rfl, by decide +kernel, by decide +kernel⟩
abbrev shas_guard_signs : Stmt := top 15
theorem schas_guard_signs : FnScope ["text", "sign"] ["text"] (defScope shas_guard_signs) := ⟨rfl, rfl, rfl, by decide +kernel, rfl, by decide +kernel, by decide +kernel⟩
abbrev smatches : Stmt := top 16
theorem scmatches : FnScope ["guard", "view", "sign", "seen"] ["guard", "view"] (defScope smatches) := ⟨rfl, rfl, rfl, by decide +kernel, rfl, by decide +kernel, by decide +kernel⟩
abbrev sfires : Stmt := top 17
theorem scfires : FnScope ["line", "view", "op", "_", "source", "guard"] ["line", "view"] (defScope sfires) := ⟨rfl, rfl, rfl, by decide +kernel, rfl, by decide +kernel, by decide +kernel⟩
abbrev ssources : Stmt := top 18
theorem scsources : FnScope ["line", "view", "op", "target", "source", "_", "origins"] ["line", "view"] (defScope ssources) := ⟨rfl, rfl, rfl, by decide +kernel, rfl, by decide +kernel, by decide +kernel⟩
abbrev skept_blocks : Stmt := top 19
theorem sckept_blocks : FnScope ["view", "block", "seen"] ["view"] (defScope skept_blocks) := ⟨rfl, rfl, rfl, by decide +kernel, rfl, by decide +kernel, by decide +kernel⟩
abbrev sapply_line : Stmt := top 20
theorem scapply_line : FnScope ["line", "image", "block"] ["line", "image"] (defScope sapply_line) := ⟨rfl, rfl, rfl, by decide +kernel, rfl, by decide +kernel, by decide +kernel⟩
abbrev slook_after : Stmt := top 21
theorem sclook_after : FnScope ["line", "view", "block"] ["line", "view"] (defScope slook_after) := ⟨rfl, rfl, rfl, by decide +kernel, rfl, by decide +kernel, by decide +kernel⟩
abbrev s_is_line : Stmt := top 22
theorem sc_is_line : FnScope ["line", "blocks", "op", "target", "source", "guard"] ["line", "blocks"] (defScope s_is_line) := ⟨rfl, rfl, rfl, by decide +kernel, rfl, by decide +kernel, by decide +kernel⟩
abbrev s_is_block : Stmt := top 23
theorem sc_is_block : FnScope ["block", "blocks"] ["block", "blocks"] (defScope s_is_block) := ⟨rfl, rfl, rfl, by decide +kernel, rfl, by decide +kernel, by decide +kernel⟩
abbrev s_is_source : Stmt := top 24
theorem sc_is_source : FnScope ["op", "target", "source", "blocks"] ["op", "target", "source", "blocks"] (defScope s_is_source) := ⟨rfl, rfl, rfl, by decide +kernel, rfl, by decide +kernel, by decide +kernel⟩
abbrev s_is_guard : Stmt := top 25
theorem sc_is_guard : FnScope ["guard", "blocks"] ["guard", "blocks"] (defScope s_is_guard) := ⟨rfl, rfl, rfl, by decide +kernel, rfl, by decide +kernel, by decide +kernel⟩
abbrev s_fits : Stmt := top 26
theorem sc_fits : FnScope ["sign", "seen"] ["sign", "seen"] (defScope s_fits) := ⟨rfl, rfl, rfl, by decide +kernel, rfl, by decide +kernel, by decide +kernel⟩
abbrev simages : Stmt := top 28
theorem scimages : FnScope ["script", "image", "found", "line"] ["script", "image"] (defScope simages) := ⟨rfl, rfl, rfl, by decide +kernel, rfl, by decide +kernel, by decide +kernel⟩
abbrev splain_run : Stmt := top 29
theorem scplain_run : FnScope ["script", "image"] ["script", "image"] (defScope splain_run) := ⟨rfl, rfl, rfl, by decide +kernel, rfl, by decide +kernel, by decide +kernel⟩
abbrev sflow : Stmt := top 30
theorem scflow : FnScope ["script", "view", "origins", "line", "block"] ["script", "view"] (defScope sflow) := ⟨rfl, rfl, rfl, by decide +kernel, rfl, by decide +kernel, by decide +kernel⟩
abbrev s_law_bag : Stmt := top 32
theorem sc_law_bag : FnScope ["script", "cell"] ["script"] (defScope s_law_bag) := ⟨rfl, rfl, rfl, by decide +kernel, rfl, by decide +kernel, by decide +kernel⟩
abbrev s_law_draw : Stmt := top 33
theorem sc_law_draw : FnScope ["bag", "many", "cell", "digit", "one", "two", "three"] ["bag", "many"] (defScope s_law_draw) := ⟨rfl, rfl, rfl, by decide +kernel, rfl, by decide +kernel, by decide +kernel⟩
abbrev s_law_image : Stmt := top 34
theorem sc_law_image : FnScope ["bag", "n", "kinds", "rests", "hollow", "entries", "k", "entry"] ["bag", "n"] (defScope s_law_image) := ⟨rfl, rfl, rfl, by decide +kernel, rfl, by decide +kernel, by decide +kernel⟩
abbrev s_law_twin : Stmt := top 35
theorem sc_law_twin : FnScope ["bag", "image", "entries", "entry"] ["bag", "image"] (defScope s_law_twin) := ⟨rfl, rfl, rfl, by decide +kernel, rfl, by decide +kernel, by decide +kernel⟩
abbrev s_law_view : Stmt := top 36
theorem sc_law_view : FnScope ["image", "entry"] ["image"] (defScope s_law_view) := ⟨rfl, rfl, rfl, by decide +kernel, rfl, by decide +kernel, by decide +kernel⟩
abbrev s_law_guard : Stmt := top 37
theorem sc_law_guard : FnScope ["bag", "n", "view", "way", "signs", "k", "sign", "spot"] ["bag", "n", "view"] (defScope s_law_guard) := ⟨rfl, rfl, rfl, by decide +kernel, rfl, by decide +kernel, by decide +kernel⟩
abbrev s_law_row : Stmt := top 38
theorem sc_law_row : FnScope ["bag", "n", "view", "word", "target", "origin", "filled", "k"] ["bag", "n", "view"] (defScope s_law_row) := ⟨rfl, rfl, rfl, by decide +kernel, rfl, by decide +kernel, by decide +kernel⟩
abbrev s_law_fits : Stmt := top 39
theorem sc_law_fits : FnScope ["guard", "view", "k"] ["guard", "view"] (defScope s_law_fits) := ⟨rfl, rfl, rfl, by decide +kernel, rfl, by decide +kernel, by decide +kernel⟩
abbrev s_law_works : Stmt := top 40
theorem sc_law_works : FnScope ["row", "view"] ["row", "view"] (defScope s_law_works) := ⟨rfl, rfl, rfl, by decide +kernel, rfl, by decide +kernel, by decide +kernel⟩
abbrev s_law_origins : Stmt := top 41
theorem sc_law_origins : FnScope ["row", "view", "held", "k"] ["row", "view"] (defScope s_law_origins) := ⟨rfl, rfl, rfl, by decide +kernel, rfl, by decide +kernel, by decide +kernel⟩
abbrev s_law_carried : Stmt := top 42
theorem sc_law_carried : FnScope ["held", "entries", "k"] ["held", "entries"] (defScope s_law_carried) := ⟨rfl, rfl, rfl, by decide +kernel, rfl, by decide +kernel, by decide +kernel⟩
abbrev s_law_is_whole : Stmt := top 43
theorem sc_law_is_whole : FnScope ["told"] ["told"] (defScope s_law_is_whole) := ⟨rfl, rfl, rfl, by decide +kernel, rfl, by decide +kernel, by decide +kernel⟩
abbrev s_law_same : Stmt := top 44
theorem sc_law_same : FnScope ["told", "due", "k"] ["told", "due"] (defScope s_law_same) := ⟨rfl, rfl, rfl, by decide +kernel, rfl, by decide +kernel, by decide +kernel⟩
abbrev s_law_same_list : Stmt := top 45
theorem sc_law_same_list : FnScope ["told", "due", "k"] ["told", "due"] (defScope s_law_same_list) := ⟨rfl, rfl, rfl, by decide +kernel, rfl, by decide +kernel, by decide +kernel⟩
abbrev s_law_script : Stmt := top 46
theorem sc_law_script : FnScope ["bag", "n", "image", "size", "rows", "turn", "row"] ["bag", "n", "image"] (defScope s_law_script) := ⟨rfl, rfl, rfl, by decide +kernel, rfl, by decide +kernel, by decide +kernel⟩
abbrev s_law_path : Stmt := top 47
theorem sc_law_path : FnScope ["rows", "image", "path", "row"] ["rows", "image"] (defScope s_law_path) := ⟨rfl, rfl, rfl, by decide +kernel, rfl, by decide +kernel, by decide +kernel⟩
abbrev s_law_led : Stmt := top 48
theorem sc_law_led : FnScope ["rows", "view", "held", "row", "step", "k"] ["rows", "view"] (defScope s_law_led) := ⟨rfl, rfl, rfl, by decide +kernel, rfl, by decide +kernel, by decide +kernel⟩
abbrev s_law_runs : Stmt := top 49
theorem sc_law_runs : FnScope ["rows", "image", "path", "handed", "told"] ["rows", "image"] (defScope s_law_runs) := ⟨rfl, rfl, rfl, by decide +kernel, rfl, by decide +kernel, by decide +kernel⟩
abbrev s_law_joined : Stmt := top 50
theorem sc_law_joined : FnScope ["rows", "cut", "image", "front", "middle", "back"] ["rows", "cut", "image"] (defScope s_law_joined) := ⟨rfl, rfl, rfl, by decide +kernel, rfl, by decide +kernel, by decide +kernel⟩
abbrev slaw : Stmt := top 51
theorem sclaw : FnScope ["script", "bag", "n", "first", "second", "rows", "cut", "own", "due"] ["script"] (defScope slaw) := ⟨rfl, rfl, rfl, by decide +kernel, rfl, by decide +kernel, by decide +kernel⟩
structure Top (K : PySem.W.Frag) (mg : Str → Option Value) : Prop where
  d_check_image : ∃ f fd, Def K mg "check_image" scheck_image ["image"] f fd
  d_look : ∃ f fd, Def K mg "look" slook ["image"] f fd
  d__sign : ∃ f fd, Def K mg "_sign" s_sign ["entry"] f fd
  d_check_script : ∃ f fd, Def K mg "check_script" scheck_script ["script", "image"] f fd
  d_has_guard_signs : ∃ f fd, Def K mg "has_guard_signs" shas_guard_signs ["text"] f fd
  d_matches : ∃ f fd, Def K mg "matches" smatches ["guard", "view"] f fd
  d_fires : ∃ f fd, Def K mg "fires" sfires ["line", "view"] f fd
  d_sources : ∃ f fd, Def K mg "sources" ssources ["line", "view"] f fd
  d_kept_blocks : ∃ f fd, Def K mg "kept_blocks" skept_blocks ["view"] f fd
  d_apply_line : ∃ f fd, Def K mg "apply_line" sapply_line ["line", "image"] f fd
  d_look_after : ∃ f fd, Def K mg "look_after" slook_after ["line", "view"] f fd
  d__is_line : ∃ f fd, Def K mg "_is_line" s_is_line ["line", "blocks"] f fd
  d__is_block : ∃ f fd, Def K mg "_is_block" s_is_block ["block", "blocks"] f fd
  d__is_source : ∃ f fd, Def K mg "_is_source" s_is_source ["op", "target", "source", "blocks"] f fd
  d__is_guard : ∃ f fd, Def K mg "_is_guard" s_is_guard ["guard", "blocks"] f fd
  d__fits : ∃ f fd, Def K mg "_fits" s_fits ["sign", "seen"] f fd
  d_images : ∃ f fd, Def K mg "images" simages ["script", "image"] f fd
  d_plain_run : ∃ f fd, Def K mg "plain_run" splain_run ["script", "image"] f fd
  d_flow : ∃ f fd, Def K mg "flow" sflow ["script", "view"] f fd
  d__law_bag : ∃ f fd, Def K mg "_law_bag" s_law_bag ["script"] f fd
  d__law_draw : ∃ f fd, Def K mg "_law_draw" s_law_draw ["bag", "many"] f fd
  d__law_image : ∃ f fd, Def K mg "_law_image" s_law_image ["bag", "n"] f fd
  d__law_twin : ∃ f fd, Def K mg "_law_twin" s_law_twin ["bag", "image"] f fd
  d__law_view : ∃ f fd, Def K mg "_law_view" s_law_view ["image"] f fd
  d__law_guard : ∃ f fd, Def K mg "_law_guard" s_law_guard ["bag", "n", "view"] f fd
  d__law_row : ∃ f fd, Def K mg "_law_row" s_law_row ["bag", "n", "view"] f fd
  d__law_fits : ∃ f fd, Def K mg "_law_fits" s_law_fits ["guard", "view"] f fd
  d__law_works : ∃ f fd, Def K mg "_law_works" s_law_works ["row", "view"] f fd
  d__law_origins : ∃ f fd, Def K mg "_law_origins" s_law_origins ["row", "view"] f fd
  d__law_carried : ∃ f fd, Def K mg "_law_carried" s_law_carried ["held", "entries"] f fd
  d__law_is_whole : ∃ f fd, Def K mg "_law_is_whole" s_law_is_whole ["told"] f fd
  d__law_same : ∃ f fd, Def K mg "_law_same" s_law_same ["told", "due"] f fd
  d__law_same_list : ∃ f fd, Def K mg "_law_same_list" s_law_same_list ["told", "due"] f fd
  d__law_script : ∃ f fd, Def K mg "_law_script" s_law_script ["bag", "n", "image"] f fd
  d__law_path : ∃ f fd, Def K mg "_law_path" s_law_path ["rows", "image"] f fd
  d__law_led : ∃ f fd, Def K mg "_law_led" s_law_led ["rows", "view"] f fd
  d__law_runs : ∃ f fd, Def K mg "_law_runs" s_law_runs ["rows", "image"] f fd
  d__law_joined : ∃ f fd, Def K mg "_law_joined" s_law_joined ["rows", "cut", "image"] f fd
  d_law : ∃ f fd, Def K mg "law" slaw ["script"] f fd
  b_abs : mg "abs" = none
  b_all : mg "all" = none
  b_bool : mg "bool" = none
  b_enumerate : mg "enumerate" = none
  b_int : mg "int" = none
  b_isinstance : mg "isinstance" = none
  b_len : mg "len" = none
  b_list : mg "list" = none
  b_range : mg "range" = none
  b_str : mg "str" = none
  b_tuple : mg "tuple" = none
  b_zip : mg "zip" = none
  k_EMPTY : ∃ u, mg "EMPTY" = some u ∧ RelV (.int (-1)) u
  k_MOST_LINES : ∃ u, mg "MOST_LINES" = some u ∧ RelV (.int (60)) u
  k__GREATEST : ∃ u, mg "_GREATEST" = some u ∧ RelV (.int (999)) u
  k__GUARD_SIGNS : ∃ u, mg "_GUARD_SIGNS" = some u ∧ RelV (.str ".*-0123456789") u
  k__MOST_BLOCKS : ∃ u, mg "_MOST_BLOCKS" = some u ∧ RelV (.int (12)) u
local macro_rules | `(tactic| walk_at "hp") => `(tactic| first
  | assumption
  | exact upd_same
  | ((refine (upd_ne (by assumption)).trans ?_); walk_at "hp")
  | ((refine (upd_ne (Ne.symm (by assumption))).trans ?_); walk_at "hp")
  | ((refine Rv.back (by assumption) ?_); walk_at "hp")
  | ((refine Rv.Wd.tup (by assumption) ?_); walk_at "hp")
  | ((refine Rv.Wd.lst (by assumption) (by assumption) ?_); walk_at "hp"))
local macro_rules | `(tactic| walk_at "r1") => `(tactic| (first
  | ((with_reducible refine' rd_var ?hv ?_); (case hv => exact rfl))
  | with_reducible refine rd_c ?_
  | with_reducible refine rd_seq ?_
  | with_reducible refine rd_next ?_
  | with_reducible refine rd_asg ?_
  | with_reducible refine rd_name ?_
  | with_reducible refine rd_op ?_
  | with_reducible refine rd_un ?_
  | with_reducible refine rd_U ?_
  | with_reducible refine rd_I0 ?_
  | ((with_reducible refine' rd_I ?hc ?_); (case hc => first | exact .inr ⟨by decide, by decide⟩ | exact .inl ⟨by decide, by decide⟩ | exact ⟨by decide, by decide, by decide⟩ | exact ⟨by decide, by decide⟩ | (show (_ : Int) ≠ _; decide) | assumption))
  | ((with_reducible refine' rd_eq ?hc ?_); (case hc => exact rfl))
  | ((with_reducible refine' rd_ne ?hc ?_); (case hc => exact rfl))
  | with_reducible refine rd_test ?_
  | with_reducible refine rd_B ?_
  | with_reducible refine rd_k ?_
  | with_reducible refine rd_not ?_
  | with_reducible refine rd_notV ?_
  | with_reducible refine rd_and ?_
  | with_reducible refine rd_or ?_
  | with_reducible refine rd_andV ?_
  | with_reducible refine rd_orV ?_
  | with_reducible refine rd_if ?_
  | with_reducible refine rd_chain ?_
  | with_reducible refine rd_sub ?_
  | with_reducible refine rd_gcons ?_
  | with_reducible refine rd_gnil ?_
  | with_reducible refine rd_ret ?_
  | with_reducible refine rd_drop ?_
  | with_reducible refine rd_ifS ?_
  | with_reducible refine rd_cons ?_
  | with_reducible refine rd_nil ?_
  | with_reducible refine rd_CB ?_
  | with_reducible refine rd_call ?_
  | with_reducible refine rd_tup ?_
  | with_reducible refine rd_lst ?_
  | with_reducible refine rd_yes ?_
  | with_reducible refine rd_M1 ?_
  | with_reducible refine rd_intQ ?_
  | with_reducible refine rd_absQ ?_
  | with_reducible refine rd_minQ ?_
  | ((with_reducible refine' rd_tupQ ?hz ?_); (case hz => walk_at "hp"))
  | ((with_reducible refine' rd_lstL ?hz ?_); (case hz => walk_at "hp"))
  | with_reducible refine rd_for ?_
  | with_reducible refine rd_lc ?_
  | with_reducible refine rd_iTup ?_
  | with_reducible refine rd_iList ?_
  | with_reducible refine rd_iEnT ?_
  | with_reducible refine rd_iEnS ?_
  | with_reducible refine rd_iZpS ?_
  | with_reducible refine rd_iRg1 ?_
  | ((with_reducible refine' rd_ItT ?hz ?_); (case hz => walk_at "hp"))
  | ((with_reducible refine' rd_ItL ?hz ?_); (case hz => walk_at "hp"))
  | ((with_reducible refine' rd_EnT ?hz ?_); (case hz => walk_at "hp"))
  | with_reducible refine rd_EnS ?_
  | with_reducible refine rd_ZpS ?_
  | ((with_reducible refine' rd_ixS ?hz ?he ?_); (case hz => assumption); (case he => assumption))
  | ((with_reducible refine' rd_lenZ ?hz ?_); (case hz => assumption))
  | ((with_reducible refine' rd_Rg1 ?hz ?_); (case hz => assumption))
  | with_reducible refine rd_sgn ?_
  | with_reducible refine rd_sl ?_
  | with_reducible refine rd_noP ?_
  | with_reducible refine rd_part ?_
  | with_reducible refine rd_i ?_
  | ((with_reducible refine' iteD ?hz ?_); (case hz => assumption))
  | ((with_reducible refine' iteE ?hz ?_); (case hz => assumption))
  | ((with_reducible refine' iteNS ?hz ?_); (case hz => assumption))
  | ((with_reducible refine' iteN2 ?hz ?_); (case hz => assumption))
  | with_reducible refine iteT ?_
  | with_reducible refine iteF ?_
  | with_reducible refine iteNT ?_
  | with_reducible refine iteNF ?_
  | ((with_reducible refine' rd_isiI ?hk ?_); (case hk => first | exact kit_ii | exact kit_ib))
  | ((with_reducible refine' rd_isiS ?hk ?_); (case hk => exact kit_ss))
  | ((with_reducible refine' rd_isiB ?hk ?_); (case hk => first | exact kit_bb | exact kit_bi))
  | ((with_reducible refine' rd_isiT ?hz ?hk ?_); (case hz => walk_at "hp"); (case hk => exact kit_tt))
  | ((with_reducible refine' rd_isiL ?hz ?hk ?_); (case hz => walk_at "hp"); (case hk => exact kit_ll))
  | ((with_reducible refine' rd_lenT ?hz ?_); (case hz => walk_at "hp"))
  | ((with_reducible refine' rd_lenL ?hz ?_); (case hz => walk_at "hp"))
  | ((with_reducible refine' rd_ixT ?hz ?he ?_); (case hz => walk_at "hp"); (case he => first | exact rfl | assumption))
  | ((with_reducible refine' rd_ixM ?hz ?he ?_); (case hz => walk_at "hp"); (case he => first | exact rfl | assumption))
  | ((with_reducible refine' rd_setL ?hz ?he ?_); (case hz => walk_at "hp"); (case he => first | exact rfl | assumption))
  | ((with_reducible refine' rd_gtup ?hz ?he ?_); (case hz => walk_at "hp"); (case he => first | exact rfl | assumption))
  ))
local macro_rules | `(tactic| walk_at "rd") => `(tactic| repeat (walk_at "r1"))
local macro_rules | `(tactic| walk_at "re") => `(tactic| repeat (first
  | walk_at "r1"
  | ((with_reducible refine' rd_BMv ?hv ?hz ?_); (case hv => exact rfl); (case hz => walk_at "hp"))
  | ((with_reducible refine' rd_app ?hz ?hl ?_); (case hz => walk_at "hp"); (case hl => assumption))
  | with_reducible refine rd_iEnum ?_
  | ((with_reducible refine' rd_EnL ?hz ?_); (case hz => walk_at "hp"))
  | with_reducible refine rd_iStr ?_
  | with_reducible refine rd_ItS ?_
  ))
section
variable {P : Program} {w : World} {K : PySem.W.Frag} {mg : Str → Option Value} {base : Heap}
def sp_law_bag (K : PySem.W.Frag) : Sp := fun vs H Q _ => ∃ (a : Addr) (ns : List Int), vs = [.ref a] ∧ SqL K H a (ns.map V.int) ∧ ns.length ≤ 63 ∧ ∀ H' c b ms, Bag c ms b H' → Same H H' → Q (.ref b) H'
set_option maxHeartbeats 4000000 in
theorem ok_law_bag (T : Top K mg) {f : Addr} {fd : FuncData} (D : Def K mg "_law_bag" s_law_bag ["script"] f fd) : FnOk P w K mg base CX0 1 f fd ["script"] (sp_law_bag K) := by
  refine D.F.ok sc_law_bag (fun vs H Q E h => ?_) (fun cdv A outer s H vs Q E hr h => ?_)
  · obtain ⟨a, ns, rfl, _⟩ := h
    rfl
  · obtain ⟨a, ns, rfl, hS, hl, q⟩ := h
    refine ⟨_, (pss_one (ps_ret (pe_lst (pa_cons (pe_lc (own := [("cell", 1)]) (g := gName 1) (tt := tYes) rfl sc_law_bag.nd (pi_list (pe_slice sl_list (pv 0) po_none (po_some pe_int)))
      (blkOk_by (own := [("cell", 1)]) (N := ["script", "cell"]) (sc := defScope s_law_bag) (by decide +kernel)) (fun _ _ _ _ _ => (pg_name (i := 1) sc_law_bag.nd rfl (.inl rfl))) (fun _ _ _ _ _ => pts_nil)
      (fun _ _ _ _ _ => (pe_callTy call_intQ (by rfl) T.b_int (by decide +kernel) (pa_cons (pv 1) pa_nil)))) (pa_cons pe_int (pa_cons pe_int (pa_cons pe_int (pa_cons pe_int pa_nil)))))))), ?_⟩
    walk_at "rd"
    refine rd_slL hS fun l nl => ?_
    obtain ⟨ms, em, hm⟩ : ∃ ms : List Int, cutV (ns.map V.int) none (some 63) = ms.map V.int ∧ ms.length ≤ 63 := by
      refine ⟨ns.take (HT.sIx (ns.map V.int).length (ns.map V.int).length (some 63) - 0), ?_, ?_⟩
      · unfold cutV
        show List.take _ (List.drop 0 (ns.map V.int)) = _
        rw [List.drop_zero, List.map_take]
        rfl
      · rw [List.length_take]
        omega
    rw [em]
    obtain ⟨H1, eH, S1, h1⟩ := new_gen (.lst (ms.map V.int)) nl
    rw [← eH]
    walk_at "rd"
    refine lc_map (walk_list (xs := ms.map V.int)) (ms.map V.int) ?_ ?_ (fun H' S => SqL.of (S _ _ h1)) ?_ ?_
    · rfl
    · rw [List.length_map]
      omega
    · rintro i x H3 H4 Qc R hi S ⟨rfl, ex⟩ qc
      have ex0 := ex
      have hi2 : i < ms.length := by rw [List.length_map] at hi; exact hi
      rw [List.getElem?_map, List.getElem?_eq_getElem hi2] at ex
      cases ex
      walk_at "rd"
      refine ⟨rfl, ?_⟩
      walk_at "rd"
      exact qc _ _ (Same.refl _) ex0
    · intro H3 D S nD hD
      walk_at "rd"
      refine ⟨len1000 (by simp), fun p np => ?_⟩
      have nDp : D ≠ p := ne_of_none hD np
      exact q _ D p ms ⟨nDp, by rw [upd_ne nDp]; exact hD, 0, 0, _, 0, upd_same, Int.le_refl _⟩ (same_new (S1.trans S) np)
def sp_law_draw (_K : PySem.W.Frag) : Sp := fun vs H Q _ => ∃ (c b : Addr) (ns : List Int) (m : Int), vs = [.ref b, .int m] ∧ Bag c ns b H ∧ 0 < m ∧ m < 1000 ∧ ∀ H' d, Wd c ns b H H' → 0 ≤ d → d < m → Q (.int d) H'
set_option maxHeartbeats 4000000 in
theorem ok_law_draw (T : Top K mg) {f : Addr} {fd : FuncData} (D : Def K mg "_law_draw" s_law_draw ["bag", "many"] f fd) : FnOk P w K mg base CX0 1 f fd ["bag", "many"] (sp_law_draw K) := by
  refine D.F.ok sc_law_draw (fun vs H Q E h => ?_) (fun cdv A outer s H vs Q E hr h => ?_)
  · obtain ⟨c, b, ns, m, rfl, _⟩ := h
    rfl
  · obtain ⟨c, b, ns, m, rfl, B, m0, m1, q⟩ := h
    have ⟨hcb, hc, i, bu, se, cn, hb, hi0⟩ := B
    refine ⟨_, (pss_cons (ps_asg (pe_op op_add (pe_ix (r := rIxL K) ix_list (pv 0) pe_int (fun _ _ => rfl)) pe_int) (pg_sub (pv 0) pe_int set_list))
    (C8.pss_cut (ps_if (PW.pt (pw_and (pt_cmpR op_eq (pe_ix (r := rIxL K) ix_list (pv 0) pe_int (fun _ _ => rfl)) pe_int (nomark _)) (pw_and1 (pt_cmpR op_lt (pe_ix (r := rIxL K) ix_list (pv 0) pe_int (fun _ _ => rfl)) (pe_callB (r := rLenQ K) call_lenQ (by rfl) T.b_len PySem.boot_len (pa_cons (pe_ix (r := rIxL K) ix_list (pv 0) pe_int (fun _ _ => rfl)) pa_nil)) (nomark _))))) (pss_cons (ps_set (i := 2) sc_law_draw.nd rfl (.inl rfl) (pe_ix (r := rIxL K) ix_list (pe_ix (r := rIxL K) ix_list (pv 0) pe_int (fun _ _ => rfl)) (pe_ix (r := rIxL K) ix_list (pv 0) pe_int (fun _ _ => rfl)) (fun _ _ => rfl)))
    (pss_cons (ps_asg (pe_op op_add (pe_ix (r := rIxL K) ix_list (pv 0) pe_int (fun _ _ => rfl)) pe_int) (pg_sub (pv 0) pe_int set_list))
    (pss_one (ps_if (pt_cmpR op_ge (pe_callB call_absQ (by rfl) T.b_abs (by decide +kernel) (pa_cons (pv 2) pa_nil)) (pe_op op_pow pe_int pe_int) (nomark _)) (pss_one (ps_asg (pe_callB call_absQ (by rfl) T.b_abs (by decide +kernel) (pa_cons (pv 2) pa_nil)) (pg_sub (pv 0) pe_int set_list))) (pss_one (ps_asg (pe_op op_modN (pe_callTy call_intQ (by rfl) T.b_int (by decide +kernel) (pa_cons (pe_op op_add (pe_op op_add (pe_op op_mul (pe_ix (r := rIxL K) ix_list (pv 0) pe_int (fun _ _ => rfl)) pe_int) (pe_op op_mul (pv 2) pe_int)) pe_int) pa_nil)) pe_int) (pg_sub (pv 0) pe_int set_list))))))) pss_nil)
    (pss_cons (ps_if (pt_cmpR op_gt (pe_ix (r := rIxL K) ix_list (pv 0) pe_int (fun _ _ => rfl)) pe_int (nomark _)) (pss_cons (ps_set (i := 3) sc_law_draw.nd rfl (.inl rfl) (pe_op op_modN (pe_callTy call_intQ (by rfl) T.b_int (by decide +kernel) (pa_cons (pe_ix (r := rIxL K) ix_list (pv 0) pe_int (fun _ _ => rfl)) pa_nil)) (pv 1)))
    (pss_cons (ps_asg (pe_op op_fdivN (pe_callTy call_intQ (by rfl) T.b_int (by decide +kernel) (pa_cons (pe_ix (r := rIxL K) ix_list (pv 0) pe_int (fun _ _ => rfl)) pa_nil)) (pv 1)) (pg_sub (pv 0) pe_int set_list))
    (pss_one (ps_ret (pv 3))))) pss_nil)
    (pss_cons (ps_set (i := 4) sc_law_draw.nd rfl (.inl rfl) (pe_op op_modN (pe_callTy call_intQ (by rfl) T.b_int (by decide +kernel) (pa_cons (pe_op op_add (pe_ix (r := rIxL K) ix_list (pv 0) pe_int (fun _ _ => rfl)) (pe_op op_mul (pe_ix (r := rIxL K) ix_list (pv 0) pe_int (fun _ _ => rfl)) pe_int)) pa_nil)) pe_int))
    (pss_cons (ps_set (i := 5) sc_law_draw.nd rfl (.inl rfl) (pe_op op_modN (pe_callTy call_intQ (by rfl) T.b_int (by decide +kernel) (pa_cons (pe_op op_add (pe_op op_mul (pv 4) (pv 4)) pe_int) pa_nil)) pe_int))
    (pss_cons (ps_set (i := 6) sc_law_draw.nd rfl (.inl rfl) (pe_op op_modN (pe_callTy call_intQ (by rfl) T.b_int (by decide +kernel) (pa_cons (pe_op op_add (pe_op op_add (pe_op op_mul (pv 5) pe_int) (pe_op op_fdivN (pv 5) pe_int)) (pe_ix (r := rIxL K) ix_list (pv 0) pe_int (fun _ _ => rfl))) pa_nil)) pe_int))
    (pss_one (ps_ret (pe_op op_modN (pe_op op_fdivN (pv 6) pe_int) (pv 1)))))))))), ?_⟩
    walk_at "rd"
    have w1 : Wd c ns b H (upd H b (.lst ([V.ref c, .int i, .int bu, .int se, .int cn].set 4 (.int (cn + 1))))) := (Wd.refl B).put hi0
    refine ⟨fun σ' H' => ∃ y2, σ' = [some (.ref b), some (.int m), y2, none, none, none, none] ∧ Wd c ns b H H', ?_, ?_⟩
    · walk_at "rd"
      refine ite2 (fun z => ?_) (fun z => ?_)
      · walk_at "rd"
        refine ite2 (fun y => ?_) (fun y => ?_)
        · have y1 : i < ((ns.map V.int).length : Int) := of_decide_eq_true y
          obtain ⟨v, e1, e2, e3⟩ := atI_int hi0 y1
          obtain ⟨k, _, rfl⟩ := List.mem_map.mp e3
          walk_at "rd"
          refine ite2 (fun x => ?_) (fun x => ?_)
          · walk_at "rd"
            exact ⟨_, rfl, (((Wd.refl B).put hi0).put (by omega)).put (by omega)⟩
          · walk_at "rd"
            exact ⟨_, rfl, (((Wd.refl B).put hi0).put (by omega)).put (by omega)⟩
        · walk_at "rd"
          exact ⟨_, rfl, w1⟩
      · walk_at "rd"
        exact ⟨_, rfl, w1⟩
    · rintro σ' H' ⟨y2, rfl, w⟩
      have ⟨_, hc', i', bu', se', cn', hb', hi'⟩ := w.b1
      walk_at "rd"
      refine ite2 (fun z => ?_) (fun z => ?_)
      · walk_at "rd"
        refine rd_I (show m ≠ 0 by omega) ?_
        walk_at "rd"
        refine rd_I (show CDivN bu' m from ⟨by omega, by omega⟩) ?_
        walk_at "rd"
        exact q _ _ (w.put hi') (fmod_in m0).1 (fmod_in m0).2
      · walk_at "rd"
        refine rd_I (show CMul _ _ from .inl ⟨by have := (fmod_in (a := se' + cn' * 7368787) (m := 2147483647) (by decide)); omega, by have := (fmod_in (a := se' + cn' * 7368787) (m := 2147483647) (by decide)); omega⟩) ?_
        walk_at "rd"
        refine rd_I (show m ≠ 0 by omega) ?_
        exact q _ _ w (fmod_in m0).1 (fmod_in m0).2
def sp_law_image (_K : PySem.W.Frag) : Sp := fun vs H Q _ => ∃ (c b : Addr) (ns : List Int) (n : Nat), vs = [.ref b, .int n] ∧ Bag c ns b H ∧ 1 ≤ n ∧ n ≤ 12 ∧ ∀ H' D es, Wd c ns b H H' → H D = none → H' D = some (.tup (es.map V.int)) → es.length = n → Img es → Q (.ref D) H'
set_option maxHeartbeats 4000000 in
theorem ok_law_image (T : Top K mg) {f : Addr} {fd : FuncData} (D : Def K mg "_law_image" s_law_image ["bag", "n"] f fd) : FnOk P w K mg base CX0 2 f fd ["bag", "n"] (sp_law_image K) := by
  obtain ⟨f_law_draw, fd_law_draw, D_law_draw⟩ := T.d__law_draw
  have G_law_draw : FnOk P w K mg base CX0 1 f_law_draw fd_law_draw ["bag", "many"] (sp_law_draw K) := ok_law_draw T D_law_draw
  refine D.F.ok sc_law_image (fun vs H Q E h => ?_) (fun cdv A outer s H vs Q E hr h => ?_)
  · obtain ⟨c, b, ns, n, rfl, _⟩ := h
    rfl
  · obtain ⟨c, b, ns, n, rfl, B, n1, n12, q⟩ := h
    refine ⟨_, (pss_cons (ps_set (i := 2) sc_law_image.nd rfl (.inl rfl) (pe_ix (r := rIxL K) ix_list (pe_lst (pa_cons pe_int (pa_cons pe_int (pa_cons pe_int pa_nil)))) (pe_call G_law_draw hr (by rfl) D_law_draw.g D_law_draw.F.kp D_law_draw.b .nil pass0 (pa_cons (pv 0) (pa_cons pe_int pa_nil))) (fun _ _ => rfl)))
    (pss_cons (ps_set (i := 3) sc_law_image.nd rfl (.inl rfl) (pe_ix (r := rIxL K) ix_list (pe_lst (pa_cons pe_int (pa_cons pe_int (pa_cons pe_int pa_nil)))) (pe_call G_law_draw hr (by rfl) D_law_draw.g D_law_draw.F.kp D_law_draw.b .nil pass0 (pa_cons (pv 0) (pa_cons pe_int pa_nil))) (fun _ _ => rfl)))
    (pss_cons (ps_set (i := 4) sc_law_image.nd rfl (.inl rfl) (pe_call G_law_draw hr (by rfl) D_law_draw.g D_law_draw.F.kp D_law_draw.b .nil pass0 (pa_cons (pv 0) (pa_cons pe_int pa_nil))))
    (pss_cons (ps_set (i := 5) sc_law_image.nd rfl (.inl rfl) (pe_lst pa_nil))
    (pss_cons (ps_for PassesOwn.never rfl (pi_range1 (by rfl) T.b_range (pa_cons (pv 1) pa_nil)) (pg_name (i := 6) sc_law_image.nd rfl (.inl rfl)) (pss_cons (ps_set (i := 7) sc_law_image.nd rfl (.inl rfl) (pe_op op_add (pe_op op_mul pe_int (pe_call G_law_draw hr (by rfl) D_law_draw.g D_law_draw.F.kp D_law_draw.b .nil pass0 (pa_cons (pv 0) (pa_cons (pv 2) pa_nil)))) (pe_call G_law_draw hr (by rfl) D_law_draw.g D_law_draw.F.kp D_law_draw.b .nil pass0 (pa_cons (pv 0) (pa_cons (pv 3) pa_nil)))))
    (C8.pss_cut (ps_if (pt_cmpR op_lt (pe_call G_law_draw hr (by rfl) D_law_draw.g D_law_draw.F.kp D_law_draw.b .nil pass0 (pa_cons (pv 0) (pa_cons pe_int pa_nil))) (pv 4) (nomark _)) (pss_one (ps_set (i := 7) sc_law_image.nd rfl (.inl rfl) (pe_un un_neg pe_int))) pss_nil)
    (pss_one (ps_expr (pe_bm PySem.F.plainAttrs_list PySem.F.slot_list_append PySem.F.type_list_append mt_append (pv 5) (pa_cons (pv 7) pa_nil)))))))
    (pss_one (ps_ret (pe_callTy (r := rTupQ K) call_tupQ (by rfl) T.b_tuple (by decide +kernel) (pa_cons (pv 5) pa_nil))))))))), ?_⟩
    walk_at "rd"
    refine ⟨by decide, fun l1 nl1 => ?_⟩
    obtain ⟨H1, eH1, S1, h1⟩ := new_gen (.lst [V.int 10, .int 2, .int 1]) nl1
    rw [← eH1]
    have B1 := B.same S1
    walk_at "rd"
    refine ⟨c, b, ns, 3, rfl, B1, by decide, by decide, fun H2 d w2 d0 d3 => ?_⟩
    have h12 := w2.lst (B.ne nl1) h1
    obtain ⟨kd, ekd, _, mkd⟩ := atI_int (xs := [V.int 10, .int 2, .int 1]) d0 (by show d < 3; exact d3)
    obtain ⟨ki, rfl, k1, k10⟩ : ∃ ki : Int, kd = .int ki ∧ 1 ≤ ki ∧ ki ≤ 10 := by
      simp only [List.mem_cons, List.not_mem_nil, or_false] at mkd
      rcases mkd with e | e | e <;> subst e <;> exact ⟨_, rfl, by decide, by decide⟩
    walk_at "rd"
    refine ⟨by decide, fun l2 nl2 => ?_⟩
    obtain ⟨H3, eH3, S3, h3⟩ := new_gen (.lst [V.int 100, .int 2, .int 100]) nl2
    rw [← eH3]
    walk_at "rd"
    refine ⟨c, b, ns, 3, rfl, w2.b1.same S3, by decide, by decide, fun H4 d' w4 d0' d3' => ?_⟩
    have h34 := w4.lst (w2.b1.ne nl2) h3
    obtain ⟨rd, erd, _, mrd⟩ := atI_int (xs := [V.int 100, .int 2, .int 100]) d0' (by show d' < 3; exact d3')
    obtain ⟨ri, rfl, r1, r100⟩ : ∃ ri : Int, rd = .int ri ∧ 1 ≤ ri ∧ ri ≤ 100 := by
      simp only [List.mem_cons, List.not_mem_nil, or_false] at mrd
      rcases mrd with e | e | e <;> subst e <;> exact ⟨_, rfl, by decide, by decide⟩
    walk_at "rd"
    refine ⟨c, b, ns, 4, rfl, w4.b1, by decide, by decide, fun H5 ho w5 o0 o4 => ?_⟩
    have w05 : Wd c ns b H H5 := (((Wd.ofSame B S1).trans w2).same S3).trans (w4.trans w5)
    walk_at "rd"
    refine ⟨by decide, fun e ne => ?_⟩
    have hrg : -100000 ≤ (n : Int) ∧ (n : Int) ≤ 100000 := by omega
    have ne0 : H e = none := w05.free ne
    have neb : e ≠ b := B.ne ne0
    walk_at "rd"
    refine fr_rng0 (fun i σ H' => ∃ y6 y7 es, σ = [some (.ref b), some (.int n), some (.int ki), some (.int ri), some (.int ho), some (.ref e), y6, y7] ∧ Wd c ns b H H' ∧ H' e = some (.lst (es.map V.int)) ∧ es.length = i ∧ ∀ x ∈ es, -1 ≤ x ∧ x ≤ 999)
      ⟨none, none, [], rfl, w05.mut ne0, upd_same, rfl, fun x hx => absurd hx List.not_mem_nil⟩ ?_ ?_
    · rintro i σ H6 hi ⟨y6, y7, es, rfl, w6, h6, le, he⟩
      walk_at "rd"
      refine ⟨c, b, ns, ki, rfl, w6.b1, by omega, by omega, fun H7 u w7 u0 u1 => ?_⟩
      walk_at "rd"
      refine ⟨c, b, ns, ri, rfl, w7.b1, by omega, by omega, fun H8 v w8 v0 v1 => ?_⟩
      have w68 := w7.trans w8
      walk_at "rd"
      refine ⟨fun σ' H' => ∃ z : Int, σ' = [some (.ref b), some (.int n), some (.int ki), some (.int ri), some (.int ho), some (.ref e), some (.int i), some (.int z)] ∧ Wd c ns b H6 H' ∧ -1 ≤ z ∧ z ≤ 999, ?_, ?_⟩
      · walk_at "rd"
        refine ⟨c, b, ns, 4, rfl, w8.b1, by decide, by decide, fun H9 t w9 t0 t1 => ?_⟩
        have w69 := w68.trans w9
        walk_at "rd"
        refine ite2 (fun z => ?_) (fun z => ?_)
        · walk_at "rd"
          exact ⟨-1, rfl, w69, by decide, by decide⟩
        · walk_at "rd"
          exact ⟨100 * u + v, rfl, w69, by omega, by omega⟩
      · rintro σ' H' ⟨z, rfl, w9, z0, z1⟩
        have h9 := w9.lst neb h6
        walk_at "rd"
        refine rd_BMv rfl h9 ?_
        walk_at "rd"
        refine rd_app h9 (by rw [List.length_map]; omega) ?_
        walk_at "rd"
        refine ⟨_, _, es ++ [z], rfl, (w6.trans w9).mut ne0, by rw [upd_same, List.map_append]; rfl, by rw [List.length_append, le]; rfl, fun x hx => ?_⟩
        rcases List.mem_append.mp hx with k | k
        · exact he x k
        · rw [List.mem_singleton.mp k]
          exact ⟨z0, z1⟩
    · rintro σ H6 ⟨y6, y7, es, rfl, w6, h6, le, he⟩
      have le2 : es.length = n := le
      walk_at "rd"
      intro D nD
      exact q _ D es (w6.new nD) (w6.free nD) upd_same le2 ⟨by omega, by omega, he⟩
def sp_law_twin (_K : PySem.W.Frag) : Sp := fun vs H Q _ => ∃ (c b a : Addr) (ns : List Int) (fs : List Int), vs = [.ref b, .ref a] ∧ Bag c ns b H ∧ H a = some (.tup (fs.map V.int)) ∧ Img fs ∧ ∀ H' D es, Wd c ns b H H' → H D = none → H' D = some (.tup (es.map V.int)) → es.length = fs.length → Img es → codes es = codes fs → Q (.ref D) H'
set_option maxHeartbeats 4000000 in
theorem ok_law_twin (T : Top K mg) {f : Addr} {fd : FuncData} (D : Def K mg "_law_twin" s_law_twin ["bag", "image"] f fd) : FnOk P w K mg base CX0 2 f fd ["bag", "image"] (sp_law_twin K) := by
  obtain ⟨f_law_draw, fd_law_draw, D_law_draw⟩ := T.d__law_draw
  have G_law_draw : FnOk P w K mg base CX0 1 f_law_draw fd_law_draw ["bag", "many"] (sp_law_draw K) := ok_law_draw T D_law_draw
  refine D.F.ok sc_law_twin (fun vs H Q E h => ?_) (fun cdv A outer s H vs Q E hr h => ?_)
  · obtain ⟨c, b, a, ns, fs, rfl, _⟩ := h
    rfl
  · obtain ⟨c, b, a, ns, fs, rfl, B, hA, I, q⟩ := h
    obtain ⟨I1, I2, I3⟩ := I
    refine ⟨_, (pss_cons (ps_set (i := 2) sc_law_twin.nd rfl (.inl rfl) (pe_lst pa_nil))
    (pss_cons (ps_for PassesOwn.never rfl (pi_tup (pv 1)) (pg_name (i := 3) sc_law_twin.nd rfl (.inl rfl)) (pss_one (ps_if (pt_cmpR op_eq (pv 3) (pe_un un_neg pe_int) (nomark _)) (pss_one (ps_expr (pe_bm PySem.F.plainAttrs_list PySem.F.slot_list_append PySem.F.type_list_append mt_append (pv 2) (pa_cons (pe_un un_neg pe_int) pa_nil)))) (pss_one (ps_expr (pe_bm PySem.F.plainAttrs_list PySem.F.slot_list_append PySem.F.type_list_append mt_append (pv 2) (pa_cons (pe_op op_add (pe_op op_mul (pe_op op_fdivN (pv 3) pe_int) pe_int) (pe_call G_law_draw hr (by rfl) D_law_draw.g D_law_draw.F.kp D_law_draw.b .nil pass0 (pa_cons (pv 0) (pa_cons pe_int pa_nil)))) pa_nil)))))))
    (pss_one (ps_ret (pe_callTy (r := rTupQ K) call_tupQ (by rfl) T.b_tuple (by decide +kernel) (pa_cons (pv 2) pa_nil)))))), ?_⟩
    walk_at "rd"
    refine ⟨by decide, fun e ne => ?_⟩
    have neb : e ≠ b := B.ne ne
    have nae : a ≠ e := ne_of_none hA ne
    walk_at "rd"
    refine fr_it (walk_tup (xs := fs.map V.int)) (fun i σ H' => ∃ y3 es, σ = [some (.ref b), some (.ref a), some (.ref e), y3] ∧ Wd c ns b H H' ∧ H' e = some (.lst (es.map V.int)) ∧ es.length = i ∧ (∀ x ∈ es, -1 ≤ x ∧ x ≤ 999) ∧ codes es = codes (fs.take i))
      ⟨none, [], rfl, (Wd.refl B).mut ne, upd_same, rfl, fun x hx => absurd hx List.not_mem_nil, rfl⟩ (fun i σ H' _ p => ?_) ?_ ?_
    · obtain ⟨_, _, _, w, _⟩ := p
      exact SqT.of (w.tup hA)
    · rintro i x σ H0 H6 hi ⟨y3, es, rfl, w6, h6, le, he, hc⟩ ⟨rfl, ex⟩
      have hi2 : i < fs.length := by rw [List.length_map] at hi; exact hi
      rw [List.getElem?_map, List.getElem?_eq_getElem hi2] at ex
      cases ex
      obtain ⟨k0, k1⟩ := I3 _ (List.getElem_mem hi2)
      have tk : fs.take (i + 1) = fs.take i ++ [fs[i]] := by rw [List.take_add_one, List.getElem?_eq_getElem hi2]; rfl
      generalize fs[i] = k at *
      have fin : ∀ (z : Int) (H' : Hp), Wd c ns b H6 H' → -1 ≤ z → z ≤ 999 → sg z = sg k → ∃ y3 es', [some (V.ref b), some (.ref a), some (.ref e), some (.int k)] = [some (V.ref b), some (.ref a), some (.ref e), y3] ∧ Wd c ns b H (upd H' e (.lst (es.map V.int ++ [.int z]))) ∧ (upd H' e (.lst (es.map V.int ++ [.int z]))) e = some (.lst (es'.map V.int)) ∧ es'.length = i + 1 ∧ (∀ x ∈ es', -1 ≤ x ∧ x ≤ 999) ∧ codes es' = codes (fs.take (i + 1)) := fun z H' w7 z0 z1 zs =>
        ⟨_, es ++ [z], rfl, (w6.trans w7).mut ne, by rw [upd_same, List.map_append]; rfl, by rw [List.length_append, le]; rfl, fun x hx => by
          rcases List.mem_append.mp hx with m | m
          · exact he x m
          · rw [List.mem_singleton.mp m]
            exact ⟨z0, z1⟩, by
          rw [tk]
          unfold codes at hc ⊢
          rw [List.map_append, List.map_append, hc]
          show _ ++ [sg z] = _ ++ [sg k]
          rw [zs]⟩
      walk_at "rd"
      refine ite2 (fun z => ?_) (fun z => ?_)
      · have z1 : k = -1 := V.int.inj (of_decide_eq_true z)
        walk_at "rd"
        refine rd_BMv rfl h6 ?_
        walk_at "rd"
        refine rd_app h6 (by rw [List.length_map]; omega) ?_
        exact fin (-1) _ (Wd.refl w6.b1) (by decide) (by decide) (by rw [z1])
      · have z1 : k ≠ -1 := fun e => z (by rw [e]; rfl)
        walk_at "rd"
        refine rd_BMv rfl h6 ?_
        walk_at "rd"
        refine ⟨c, b, ns, 100, rfl, w6.b1, by decide, by decide, fun H8 v w8 v0 v1 => ?_⟩
        walk_at "rd"
        have k2 := kind_small (e := k) (by omega) k1
        refine rd_app (w8.lst neb h6) (by rw [List.length_map]; omega) ?_
        refine fin (k.fdiv 100 * 100 + v) _ w8 (by omega) (by omega) ?_
        unfold sg
        rw [if_neg (by omega), if_neg z1]
        congr 2
        rw [Int.fdiv_eq_ediv_of_nonneg _ (by decide), Int.fdiv_eq_ediv_of_nonneg _ (by decide)]
        omega
    · rintro σ H6 ⟨y3, es, rfl, w6, h6, le, he, hc⟩
      rw [List.length_map] at le
      rw [List.length_map, List.take_of_length_le (Nat.le_refl _)] at hc
      walk_at "rd"
      intro D nD
      exact q _ D es (w6.new nD) (w6.free nD) upd_same le ⟨by omega, by omega, he⟩ hc
def sp_law_guard (_K : PySem.W.Frag) : Sp := fun vs H Q _ => ∃ (c b : Addr) (ns : List Int) (n : Nat) (cs : List Nat), vs = [.ref b, .int n, .str (txt cs)] ∧ Bag c ns b H ∧ 1 ≤ n ∧ n ≤ 12 ∧ cs.length = n ∧ (∀ x ∈ cs, Sign x) ∧ ∀ H' gs, Wd c ns b H H' → (gs = [] ∨ gs.length = n) → (∀ x ∈ gs, Sign x) → Q (.str (txt gs)) H'
set_option maxHeartbeats 4000000 in
theorem ok_law_guard (T : Top K mg) {f : Addr} {fd : FuncData} (D : Def K mg "_law_guard" s_law_guard ["bag", "n", "view"] f fd) : FnOk P w K mg base CX0 2 f fd ["bag", "n", "view"] (sp_law_guard K) := by
  obtain ⟨f_law_draw, fd_law_draw, D_law_draw⟩ := T.d__law_draw
  have G_law_draw : FnOk P w K mg base CX0 1 f_law_draw fd_law_draw ["bag", "many"] (sp_law_draw K) := ok_law_draw T D_law_draw
  refine D.F.ok sc_law_guard (fun vs H Q E h => ?_) (fun cdv A outer s H vs Q E hr h => ?_)
  · obtain ⟨c, b, ns, n, cs, rfl, _⟩ := h
    rfl
  · obtain ⟨c, b, ns, n, cs, rfl, B, n1, n12, lc, hcs, q⟩ := h
    have hz := txt_small (cs := cs) (by omega)
    have hrg : -100000 ≤ (n : Int) ∧ (n : Int) ≤ 100000 := by omega
    refine ⟨_, (pss_cons (ps_set (i := 3) sc_law_guard.nd rfl (.inl rfl) (pe_call G_law_draw hr (by rfl) D_law_draw.g D_law_draw.F.kp D_law_draw.b .nil pass0 (pa_cons (pv 0) (pa_cons pe_int pa_nil))))
    (pss_cons (ps_if (pt_cmpR op_eq (pv 3) pe_int (nomark _)) (pss_one (ps_ret pe_str)) pss_nil)
    (pss_cons (ps_set (i := 4) sc_law_guard.nd rfl (.inl rfl) (pe_lst pa_nil))
    (pss_cons (ps_for PassesOwn.never rfl (pi_range1 (by rfl) T.b_range (pa_cons (pv 1) pa_nil)) (pg_name (i := 5) sc_law_guard.nd rfl (.inl rfl)) (pss_cons (ps_set (i := 6) sc_law_guard.nd rfl (.inl rfl) pe_str)
    (C8.pss_cut (ps_if (pt_cmpR op_ne (pe_ix ix_str (pv 2) (pv 5) (fun _ _ => rfl)) pe_str (nomark _)) (pss_one (ps_set (i := 6) sc_law_guard.nd rfl (.inl rfl) (pe_ix (r := rIxL K) ix_list (pe_lst (pa_cons pe_str (pa_cons (pe_ix ix_str (pv 2) (pv 5) (fun _ _ => rfl)) pa_nil))) (pe_call G_law_draw hr (by rfl) D_law_draw.g D_law_draw.F.kp D_law_draw.b .nil pass0 (pa_cons (pv 0) (pa_cons pe_int pa_nil))) (fun _ _ => rfl)))) pss_nil)
    (pss_one (ps_expr (pe_bm PySem.F.plainAttrs_list PySem.F.slot_list_append PySem.F.type_list_append mt_append (pv 4) (pa_cons (pe_ix (r := rIxL K) ix_list (pe_lst (pa_cons pe_str (pa_cons (pv 6) pa_nil))) (pe_call G_law_draw hr (by rfl) D_law_draw.g D_law_draw.F.kp D_law_draw.b .nil pass0 (pa_cons (pv 0) (pa_cons pe_int pa_nil))) (fun _ _ => rfl)) pa_nil)))))))
    (C8.pss_cut (ps_if (pt_cmpR op_eq (pv 3) pe_int (nomark _)) (pss_cons (ps_set (i := 7) sc_law_guard.nd rfl (.inl rfl) (pe_call G_law_draw hr (by rfl) D_law_draw.g D_law_draw.F.kp D_law_draw.b .nil pass0 (pa_cons (pv 0) (pa_cons (pv 1) pa_nil))))
    (pss_one (ps_asg (pe_ix ix_str pe_str (pe_call G_law_draw hr (by rfl) D_law_draw.g D_law_draw.F.kp D_law_draw.b .nil pass0 (pa_cons (pv 0) (pa_cons pe_int pa_nil))) (fun _ _ => rfl)) (pg_sub (pv 4) (pv 7) set_list)))) pss_nil)
    (C8.pss_cut (ps_if (pt_cmpR op_eq (pv 3) pe_int (nomark _)) (pss_one (ps_setLc (i := 4) (own := [("k", 5)]) (g := gName 5) (tt := tYes) rfl sc_law_guard.nd rfl rfl (sw_true rfl rfl rfl (by decide +kernel)) (pi_range1 (by rfl) T.b_range (pa_cons (pv 1) pa_nil))
      (blkOk_by (own := [("k", 5)]) (N := ["bag", "n", "view", "way", "signs", "k", "sign", "spot"]) (sc := defScope s_law_guard) (by decide +kernel)) (fun _ _ _ _ _ => (pg_name (i := 5) sc_law_guard.nd rfl (.inl rfl))) (fun _ _ _ _ _ => pts_nil)
      (fun _ _ _ _ _ => (pe_ix ix_str pe_str (pe_call G_law_draw hr (by rfl) D_law_draw.g D_law_draw.F.kp D_law_draw.b .nil pass0 (pa_cons (pv 0) (pa_cons pe_int pa_nil))) (fun _ _ => rfl))))) pss_nil)
    (pss_one (ps_ret (pe_join pe_str (pv 4)))))))))), ?_⟩
    walk_at "rd"
    refine ⟨c, b, ns, 5, rfl, B, by decide, by decide, fun H1 way w1 a0 a1 => ?_⟩
    walk_at "rd"
    refine ite2 (fun z => ?_) (fun z => ?_)
    · walk_at "rd"
      exact q _ [] w1 (.inl rfl) fun x hx => absurd hx List.not_mem_nil
    · walk_at "rd"
      refine ⟨by decide, fun e ne => ?_⟩
      have ne0 := w1.free ne
      have neb : e ≠ b := B.ne ne0
      walk_at "rd"
      refine fr_rng0 (fun i σ H' => ∃ (y5 y6 : Option V) (gs : List Nat), σ = [some (.ref b), some (.int n), some (.str (txt cs)), some (.int way), some (.ref e), y5, y6, none] ∧ Wd c ns b H H' ∧ H' e = some (.lst (gs.map fun c => V.str (one c))) ∧ gs.length = i ∧ ∀ x ∈ gs, Sign x)
        ⟨none, none, [], rfl, w1.mut ne0, upd_same, rfl, fun x hx => absurd hx List.not_mem_nil⟩ ?_ ?_
      · rintro i σ H6 hi ⟨y5, y6, gs, rfl, w6, h6, le, hg⟩
        have hi2 : i < n := by simpa using hi
        have ea : atI (txt cs).cps.toList (i : Int) = some (cs[i]'(by omega)) := atI_get (xs := cs) (by omega)
        have hci := hcs _ (List.getElem_mem (show i < cs.length by omega))
        generalize cs[i]'(by omega) = v at *
        walk_at "rd"
        refine ⟨fun σ' H' => ∃ s : Nat, σ' = [some (.ref b), some (.int n), some (.str (txt cs)), some (.int way), some (.ref e), some (.int i), some (.str (one s)), none] ∧ Wd c ns b H6 H' ∧ Sign s, ?_, ?_⟩
        · walk_at "rd"
          refine ite2 (fun y => ?_) (fun y => ?_)
          · walk_at "rd"
            refine ⟨len1000 (by simp), fun l nl => ?_⟩
            obtain ⟨H7, eH7, S7, h7⟩ := new_gen (.lst [V.str (Str.ofString "*"), .str ⟨#[v]⟩]) nl
            rw [← eH7]
            walk_at "rd"
            refine ⟨c, b, ns, 2, rfl, w6.b1.same S7, by decide, by decide, fun H8 d w8 d0 d2 => ?_⟩
            have h78 := w8.lst (w6.b1.ne nl) h7
            obtain ⟨sv, esv, _, msv⟩ := atI_int (xs := [V.str (Str.ofString "*"), .str ⟨#[v]⟩]) d0 (by show d < 2; exact d2)
            obtain ⟨s, rfl, hs⟩ : ∃ s : Nat, sv = .str (one s) ∧ Sign s := by
              simp only [List.mem_cons, List.not_mem_nil, or_false] at msv
              rcases msv with k | k
              · exact ⟨42, k, .inr (.inl rfl)⟩
              · exact ⟨v, k, hci⟩
            walk_at "rd"
            exact ⟨s, rfl, (Wd.ofSame w6.b1 S7).trans w8, hs⟩
          · walk_at "rd"
            exact ⟨46, rfl, Wd.refl w6.b1, .inl rfl⟩
        · rintro σ' H' ⟨s, rfl, w7, hs⟩
          have h7 := w7.lst neb h6
          walk_at "rd"
          refine rd_BMv rfl h7 ?_
          walk_at "rd"
          refine ⟨len1000 (by simp), fun l nl => ?_⟩
          obtain ⟨H8, eH8, S8, h8⟩ := new_gen (.lst [V.str (Str.ofString "-"), .str (one s)]) nl
          rw [← eH8]
          walk_at "rd"
          refine ⟨c, b, ns, 2, rfl, w7.b1.same S8, by decide, by decide, fun H9 d w9 d0 d2 => ?_⟩
          have h89 := w9.lst (w7.b1.ne nl) h8
          have h79 := w9.lst neb (S8 _ _ h7)
          obtain ⟨sv, esv, _, msv⟩ := atI_int (xs := [V.str (Str.ofString "-"), .str (one s)]) d0 (by show d < 2; exact d2)
          obtain ⟨s', rfl, hs'⟩ : ∃ s' : Nat, sv = .str (one s') ∧ Sign s' := by
            simp only [List.mem_cons, List.not_mem_nil, or_false] at msv
            rcases msv with k | k
            · exact ⟨45, k, .inr (.inr (.inl rfl))⟩
            · exact ⟨s, k, hs⟩
          walk_at "rd"
          refine rd_app h79 (by rw [List.length_map]; omega) ?_
          walk_at "rd"
          refine ⟨_, _, gs ++ [s'], rfl, ((w6.trans w7).same S8 |>.trans w9).mut ne0, by rw [upd_same, List.map_append]; rfl, by rw [List.length_append, le]; rfl, fun x hx => ?_⟩
          rcases List.mem_append.mp hx with k | k
          · exact hg x k
          · rw [List.mem_singleton.mp k]
            exact hs'
      · rintro σ H6 ⟨y5, y6, gs, rfl, w6, h6, le, hg⟩
        have le2 : gs.length = n := by simpa using le
        have pick : ∀ {d : Int}, 0 ≤ d → d < 13 → ∃ s : Nat, atI (Str.ofString ".*-0123456789").cps.toList d = some s ∧ Sign s := fun {d} d0 d1 => by
          obtain ⟨s, es, _, ms⟩ := atI_int (xs := [46, 42, 45, 48, 49, 50, 51, 52, 53, 54, 55, 56, 57]) d0 (by show d < 13; exact d1)
          refine ⟨s, es, ?_⟩
          simp only [List.mem_cons, List.not_mem_nil, or_false] at ms
          unfold Sign
          omega
        have hsz : (Str.ofString ".*-0123456789").length ≤ sizeLine := Nat.le_trans (show _ ≤ 13 by decide) (by decide)
        walk_at "rd"
        refine ⟨fun σ' H' => ∃ (y5 y6 y7 : Option V) (gs' : List Nat), σ' = [some (.ref b), some (.int n), some (.str (txt cs)), some (.int way), some (.ref e), y5, y6, y7] ∧ Wd c ns b H H' ∧ H' e = some (.lst (gs'.map fun c => V.str (one c))) ∧ gs'.length = n ∧ ∀ x ∈ gs', Sign x, ?_, ?_⟩
        · walk_at "rd"
          refine ite2 (fun y => ?_) (fun y => ?_)
          · walk_at "rd"
            refine ⟨c, b, ns, n, rfl, w6.b1, by omega, by omega, fun H7 sp w7 p0 p1 => ?_⟩
            walk_at "rd"
            refine ⟨c, b, ns, 13, rfl, w7.b1, by decide, by decide, fun H8 d w8 d0 d1 => ?_⟩
            obtain ⟨s, es, hs⟩ := pick d0 d1
            have h8 := w8.lst neb (w7.lst neb h6)
            have ej : ixN (gs.map fun c => V.str (one c)).length sp = some sp.toNat := ixN_of (by omega) (by rw [List.length_map]; omega)
            walk_at "rd"
            refine ⟨_, _, _, gs.set sp.toNat s, rfl, ((w6.trans w7).trans w8).mut ne0, by rw [upd_same]; exact congrArg (fun z => some (HO.lst z)) (List.map_set ..).symm, by rw [List.length_set]; exact le2, fun x hx => ?_⟩
            rcases List.mem_or_eq_of_mem_set hx with k | k
            · exact hg x k
            · rw [k]; exact hs
          · walk_at "rd"
            exact ⟨_, _, _, gs, rfl, w6, h6, le2, hg⟩
        · rintro σ' H' ⟨y5, y6, y7, gs', rfl, w7, h7, le3, hg3⟩
          walk_at "rd"
          refine ⟨fun σ' H' => ∃ (y5 y6 y7 : Option V) (e' : Addr) (gs' : List Nat), σ' = [some (.ref b), some (.int n), some (.str (txt cs)), some (.int way), some (.ref e'), y5, y6, y7] ∧ Wd c ns b H H' ∧ H' e' = some (.lst (gs'.map fun c => V.str (one c))) ∧ gs'.length = n ∧ ∀ x ∈ gs', Sign x, ?_, ?_⟩
          · walk_at "rd"
            refine ite2 (fun y => ?_) (fun y => ?_)
            · walk_at "rd"
              refine lc_wd walk_rng w7.b1 (fun i acc => ∃ gs : List Nat, acc = (gs.map fun c => V.str (one c)) ∧ gs.length = i ∧ i ≤ n ∧ ∀ x ∈ gs, Sign x) ⟨[], rfl, rfl, Nat.zero_le _, fun x hx => absurd hx List.not_mem_nil⟩ ?_ (fun _ _ => trivial) ?_ ?_
              · rintro i acc ⟨gs2, rfl, l2, l3, _⟩
                rw [List.length_map]
                omega
              · rintro i x H8 H9 acc Qc R hi w8 ⟨gs2, rfl, l2, l3, hg2⟩ ⟨rfl, rfl⟩ qc _
                have hi2 : i < n := by simpa using hi
                walk_at "rd"
                refine ⟨rfl, ?_⟩
                walk_at "rd"
                refine ⟨c, b, ns, 13, rfl, w8.b1, by decide, by decide, fun H10 d w10 d0 d1 => ?_⟩
                obtain ⟨s, es, hs⟩ := pick d0 d1
                walk_at "rd"
                refine qc _ _ w10 ⟨gs2 ++ [s], by rw [List.map_append]; rfl, by rw [List.length_append, l2]; rfl, by omega, fun x hx => ?_⟩
                rcases List.mem_append.mp hx with k | k
                · exact hg2 x k
                · rw [List.mem_singleton.mp k]
                  exact hs
              · rintro H8 D acc w8 nD hD ⟨gs2, rfl, l2, l3, hg2⟩
                walk_at "rd"
                exact ⟨_, _, _, D, gs2, rfl, w7.trans w8, hD, by simpa using l2, hg2⟩
            · walk_at "rd"
              exact ⟨_, _, _, e, gs', rfl, w7, h7, le3, hg3⟩
          · rintro σ' H' ⟨y5, y6, y7, e', gs'', rfl, w8, h8, le4, hg4⟩
            walk_at "rd"
            refine ⟨_, e', gs''.map one, rfl, rfl, .inl (SqL.of (by rw [List.map_map]; exact h8)), ?_, ?_⟩
            · rw [ones_sum, List.length_map]
              show gs''.length + gs''.length * 0 ≤ _
              omega
            · rw [join_sg]
              exact q _ gs'' w8 (.inr le4) hg4
def sp_law_row (_K : PySem.W.Frag) : Sp := fun vs H Q _ => ∃ (c b : Addr) (ns : List Int) (n : Nat) (cs : List Nat), vs = [.ref b, .int n, .str (txt cs)] ∧ Bag c ns b H ∧ 1 ≤ n ∧ n ≤ 12 ∧ cs.length = n ∧ (∀ x ∈ cs, Sign x) ∧ ∀ H' D r, Wd c ns b H H' → H D = none → H' D = some (.tup r.vals) → LnOk n r → Q (.ref D) H'
set_option maxHeartbeats 4000000 in
theorem ok_law_row (T : Top K mg) {f : Addr} {fd : FuncData} (D : Def K mg "_law_row" s_law_row ["bag", "n", "view"] f fd) : FnOk P w K mg base CX0 3 f fd ["bag", "n", "view"] (sp_law_row K) := by
  obtain ⟨f_law_draw, fd_law_draw, D_law_draw⟩ := T.d__law_draw
  have G_law_draw : FnOk P w K mg base CX0 1 f_law_draw fd_law_draw ["bag", "many"] (sp_law_draw K) := ok_law_draw T D_law_draw
  obtain ⟨f_law_guard, fd_law_guard, D_law_guard⟩ := T.d__law_guard
  have G_law_guard : FnOk P w K mg base CX0 2 f_law_guard fd_law_guard ["bag", "n", "view"] (sp_law_guard K) := ok_law_guard T D_law_guard
  refine D.F.ok sc_law_row (fun vs H Q E h => ?_) (fun cdv A outer s H vs Q E hr h => ?_)
  · obtain ⟨c, b, ns, n, cs, rfl, _⟩ := h
    rfl
  · obtain ⟨c, b, ns, n, cs, rfl, B, n1, n12, lc, hcs, q⟩ := h
    have hz := txt_small (cs := cs) (by omega)
    have hrg : -100000 ≤ (n : Int) ∧ (n : Int) ≤ 100000 := by omega
    have hn0 : (n : Int) ≠ 0 := by omega
    refine ⟨_, (pss_cons (ps_set (i := 3) sc_law_row.nd rfl (.inl rfl) (pe_ix (r := rIxL K) ix_list (pe_lst (pa_cons pe_str (pa_cons pe_str (pa_cons pe_str (pa_cons pe_str pa_nil))))) (pe_call G_law_draw (hr.mono (by decide)) (by rfl) D_law_draw.g D_law_draw.F.kp D_law_draw.b .nil pass0 (pa_cons (pv 0) (pa_cons pe_int pa_nil))) (fun _ _ => rfl)))
    (C8.pss_cut (ps_if (pt_cmpR op_eq (pv 1) pe_int (nomark _)) (pss_one (ps_set (i := 3) sc_law_row.nd rfl (.inl rfl) pe_str)) pss_nil)
    (pss_cons (ps_set (i := 4) sc_law_row.nd rfl (.inr rfl) (pe_call G_law_draw (hr.mono (by decide)) (by rfl) D_law_draw.g D_law_draw.F.kp D_law_draw.b .nil pass0 (pa_cons (pv 0) (pa_cons (pv 1) pa_nil))))
    (pss_cons (ps_set (i := 5) sc_law_row.nd rfl (.inl rfl) (pe_un un_neg pe_int))
    (C8.pss_cut (ps_if (pt_cmpR op_ne (pv 3) pe_str (nomark _)) (pss_cons (ps_set (i := 5) sc_law_row.nd rfl (.inl rfl) (pe_op op_modN (pe_callTy call_intQ (by rfl) T.b_int (by decide +kernel) (pa_cons (pe_op op_add (pe_op op_add (pv 4) pe_int) (pe_call G_law_draw (hr.mono (by decide)) (by rfl) D_law_draw.g D_law_draw.F.kp D_law_draw.b .nil pass0 (pa_cons (pv 0) (pa_cons (pe_op op_sub (pv 1) pe_int) pa_nil)))) pa_nil)) (pv 1)))
    (pss_cons (ps_setLc (i := 6) (own := [("k", 7)]) (g := gName 7) (tt := _) rfl sc_law_row.nd rfl rfl (sw_true rfl rfl rfl (by decide +kernel)) (pi_range1 (by rfl) T.b_range (pa_cons (pv 1) pa_nil))
      (blkOk_by (own := [("k", 7)]) (N := ["bag", "n", "view", "word", "target", "origin", "filled", "k"]) (sc := defScope s_law_row) (by decide +kernel)) (fun _ _ _ _ _ => (pg_name (i := 7) sc_law_row.nd rfl (.inl rfl))) (fun _ _ _ _ _ => pts_one (PW.pt (pw_and (pt_cmpR op_ne (pv 7) (pv 4) (nomark _)) (pw_and1 (pt_cmpR op_ne (pe_ix ix_str (pv 2) (pv 7) (fun _ _ => rfl)) pe_str (nomark _))))))
      (fun _ _ _ _ _ => (pv 7)))
    (pss_one (ps_if (PW.pt (pw_and (pt_cmpR (op_neD hr.units) (pv 6) (pe_lst pa_nil) (nomark _)) (pw_and1 (pt_cmpR op_gt (pe_call G_law_draw (hr.mono (by decide)) (by rfl) D_law_draw.g D_law_draw.F.kp D_law_draw.b .nil pass0 (pa_cons (pv 0) (pa_cons pe_int pa_nil))) pe_int (nomark _))))) (pss_one (ps_set (i := 5) sc_law_row.nd rfl (.inl rfl) (pe_ix (r := rIxL K) ix_list (pv 6) (pe_call G_law_draw (hr.mono (by decide)) (by rfl) D_law_draw.g D_law_draw.F.kp D_law_draw.b .nil pass0 (pa_cons (pv 0) (pa_cons (pe_callB (r := rLenQ K) call_lenQ (by rfl) T.b_len PySem.boot_len (pa_cons (pv 6) pa_nil)) pa_nil))) (fun _ _ => rfl)))) pss_nil)))) pss_nil)
    (pss_one (ps_ret (pe_tup (pa_cons (pv 3) (pa_cons (pv 4) (pa_cons (pv 5) (pa_cons (pe_call G_law_guard hr (by rfl) D_law_guard.g D_law_guard.F.kp D_law_guard.b .nil pass0 (pa_cons (pv 0) (pa_cons (pv 1) (pa_cons (pv 2) pa_nil)))) pa_nil)))))))))))), ?_⟩
    walk_at "rd"
    refine ⟨len1000 (by simp), fun l nl => ?_⟩
    obtain ⟨H1, eH1, S1, h1⟩ := new_gen (.lst [V.str (Str.ofString "copy"), .str (Str.ofString "move"), .str (Str.ofString "clear"), .str (Str.ofString "copy")]) nl
    rw [← eH1]
    walk_at "rd"
    refine ⟨c, b, ns, 4, rfl, B.same S1, by decide, by decide, fun H2 d w2 d0 d4 => ?_⟩
    have h12 := w2.lst (B.ne nl) h1
    have w02 : Wd c ns b H H2 := (Wd.ofSame B S1).trans w2
    obtain ⟨wv, ewv, _, mwv⟩ := atI_int (xs := [V.str (Str.ofString "copy"), .str (Str.ofString "move"), .str (Str.ofString "clear"), .str (Str.ofString "copy")]) d0 (by show d < 4; exact d4)
    obtain ⟨w, rfl, hw⟩ : ∃ w : Str, wv = .str w ∧ (w = sClear ∨ w = sCopy ∨ w = sMove) := by
      simp only [List.mem_cons, List.not_mem_nil, or_false] at mwv
      rcases mwv with k | k | k | k
      · exact ⟨_, k, .inr (.inl rfl)⟩
      · exact ⟨_, k, .inr (.inr rfl)⟩
      · exact ⟨_, k, .inl rfl⟩
      · exact ⟨_, k, .inr (.inl rfl)⟩
    walk_at "rd"
    refine ⟨fun σ' H' => ∃ w : Str, σ' = [some (.ref b), some (.int n), some (.str (txt cs)), some (.str w), none, none, none, none] ∧ Wd c ns b H H' ∧ (w = sClear ∨ ((w = sCopy ∨ w = sMove) ∧ 2 ≤ n)), ?_, ?_⟩
    · walk_at "rd"
      refine ite2 (fun z => ?_) (fun z => ?_)
      · walk_at "rd"
        exact ⟨sClear, rfl, w02, .inl rfl⟩
      · have z1 : (n : Int) ≠ 1 := fun e => z (by rw [e]; rfl)
        walk_at "rd"
        refine ⟨w, rfl, w02, ?_⟩
        rcases hw with k | k
        · exact .inl k
        · exact .inr ⟨k, by omega⟩
    · rintro σ' H3 ⟨w, rfl, w03, hw3⟩
      walk_at "rd"
      refine ⟨c, b, ns, n, rfl, w03.b1, by omega, by omega, fun H4 t w4 t0 t1 => ?_⟩
      have w04 := w03.trans w4
      walk_at "rd"
      refine ⟨fun σ' H' => ∃ (o : Int) (y6 y7 : Option V), σ' = [some (.ref b), some (.int n), some (.str (txt cs)), some (.str w), some (.int t), some (.int o), y6, y7] ∧ Wd c ns b H H' ∧ ((w = sClear ∧ o = -1) ∨ ((w = sCopy ∨ w = sMove) ∧ 0 ≤ o ∧ o < n ∧ o ≠ t)), ?_, ?_⟩
      · walk_at "rd"
        refine ite2 (fun z => ?_) (fun z => ?_)
        · have z1 : w ≠ sClear := fun k => by
            rw [decide_eq_true (show V.str w = V.str (Str.ofString "clear") from congrArg V.str k)] at z
            cases z
          obtain ⟨hw4, hn2⟩ : (w = sCopy ∨ w = sMove) ∧ 2 ≤ n := hw3.resolve_left z1
          walk_at "rd"
          refine ⟨c, b, ns, (n : Int) - 1, rfl, w4.b1, by omega, by omega, fun H5 u w5 u0 u1 => ?_⟩
          have w05 := w04.trans w5
          walk_at "rd"
          have ho : 0 ≤ (t + 1 + u).fmod n ∧ (t + 1 + u).fmod n < n ∧ (t + 1 + u).fmod n ≠ t := by
            refine ⟨(fmod_in (by omega)).1, (fmod_in (by omega)).2, ?_⟩
            rw [Int.fmod_eq_emod_of_nonneg _ (by omega)]
            by_cases k : t + 1 + u < n
            · rw [Int.emod_eq_of_lt (by omega) k]
              omega
            · have e : (t + 1 + u) % (n : Int) = t + 1 + u - n := by
                have e2 : t + 1 + u = (t + 1 + u - n) + n := by omega
                rw [e2, Int.add_emod_right, Int.emod_eq_of_lt (by omega) (by omega)]
                omega
              rw [e]
              omega
          generalize (t + 1 + u).fmod n = o at *
          refine lc_wd walk_rng w5.b1 (fun i acc => ∃ fs : List Int, acc = fs.map V.int ∧ fs.length ≤ i ∧ i ≤ n ∧ ∀ f ∈ fs, 0 ≤ f ∧ f < n ∧ f ≠ t) ⟨[], rfl, Nat.le_refl _, Nat.zero_le _, fun x hx => absurd hx List.not_mem_nil⟩ ?_ (fun _ _ => trivial) ?_ ?_
          · rintro i acc ⟨fs, rfl, l2, l3, _⟩
            rw [List.length_map]
            omega
          · rintro i x H8 H9 acc Qc R hi w8 ⟨fs, rfl, l2, l3, hf⟩ ⟨rfl, rfl⟩ qc rc
            have hi2 : i < n := by simpa using hi
            have ea : atI (txt cs).cps.toList (i : Int) = some (cs[i]'(by omega)) := atI_get (xs := cs) (by omega)
            have skip : ∃ fs' : List Int, fs.map V.int = fs'.map V.int ∧ fs'.length ≤ i + 1 ∧ i + 1 ≤ n ∧ ∀ f ∈ fs', 0 ≤ f ∧ f < n ∧ f ≠ t := ⟨fs, rfl, by omega, by omega, hf⟩
            walk_at "rd"
            refine ⟨rfl, ?_⟩
            walk_at "rd"
            refine ite2 (fun y => ?_) (fun y => ?_)
            · have y1 : (i : Int) ≠ t := fun k => by
                rw [decide_eq_true (show V.int (i : Int) = V.int t from congrArg V.int k)] at y
                cases y
              walk_at "rd"
              refine ite2 (fun x => ?_) (fun x => ?_)
              · walk_at "rd"
                refine qc _ _ (Wd.refl w8.b1) ⟨fs ++ [(i : Int)], by rw [List.map_append]; rfl, by rw [List.length_append]; show fs.length + 1 ≤ i + 1; omega, by omega, fun f hf2 => ?_⟩
                rcases List.mem_append.mp hf2 with k | k
                · exact hf f k
                · rw [List.mem_singleton.mp k]
                  exact ⟨by omega, by omega, y1⟩
              · exact rc _ (Wd.refl w8.b1) skip
            · walk_at "rd"
              exact rc _ (Wd.refl w8.b1) skip
          · rintro H8 D acc w8 nD hD ⟨fs, rfl, l2, l3, hf⟩
            have w08 := w05.trans w8
            have nDb := w8.b0.ne nD
            walk_at "rd"
            refine ⟨by decide, fun l2 nl2 => ?_⟩
            obtain ⟨H9, eH9, S9, h9⟩ := new_gen (.lst []) nl2
            rw [← eH9]
            have w09 := w08.same S9
            have hD9 := S9 _ _ hD
            walk_at "rd"
            refine rd_neN hD9 h9 ?_
            walk_at "rd"
            refine ite2 (fun y => ?_) (fun y => ?_)
            · have y1 : 0 < fs.length := by
                cases fs with
                | nil => cases y
                | cons x r => exact Nat.succ_pos _
              walk_at "rd"
              refine ⟨c, b, ns, 3, rfl, w09.b1, by decide, by decide, fun H10 v w10 v0 v1 => ?_⟩
              have w010 := w09.trans w10
              have hD10 := w10.lst nDb hD9
              walk_at "rd"
              refine ite2 (fun x => ?_) (fun x => ?_)
              · walk_at "rd"
                refine ⟨c, b, ns, (fs.length : Int), by rw [List.length_map], w10.b1, by omega, by simp at l3 l2; omega, fun H11 g w11 g0 g1 => ?_⟩
                have hD11 := w11.lst nDb hD10
                have eg := atI_ints g0 g1
                have hg := hf _ (getD_mem (es := fs) (k := g.toNat) (by omega))
                walk_at "rd"
                exact ⟨_, _, _, rfl, w010.trans w11, .inr ⟨hw4, hg⟩⟩
              · walk_at "rd"
                exact ⟨_, _, _, rfl, w010, .inr ⟨hw4, ho⟩⟩
            · walk_at "rd"
              exact ⟨_, _, _, rfl, w09, .inr ⟨hw4, ho⟩⟩
        · have z1 : w = sClear := by
            by_cases k : w = sClear
            · exact k
            · rw [decide_eq_false (fun (e : V.str w = V.str (Str.ofString "clear")) => k (V.str.inj e))] at z
              exact absurd rfl z
          walk_at "rd"
          exact ⟨_, _, _, rfl, w04, .inl ⟨z1, rfl⟩⟩
      · rintro σ' H5 ⟨o, y6, y7, rfl, w05, ho⟩
        walk_at "rd"
        refine ⟨c, b, ns, n, cs, rfl, w05.b1, n1, n12, lc, hcs, fun H6 gs w6 hg1 hg2 => ?_⟩
        walk_at "rd"
        refine ⟨len1000 (by simp), fun D nD => ?_⟩
        have w06 := w05.trans w6
        exact q _ D ⟨w, t, o, gs⟩ (w06.new nD) (w06.free nD) upd_same ⟨t0, t1, ho, hg1, hg2⟩
def sp_law_carried (_K : PySem.W.Frag) : Sp := fun vs H Q _ => ∃ (a b : Addr) (hs es : List Int), vs = [.ref a, .ref b] ∧ H a = some (.tup (hs.map V.int)) ∧ H b = some (.tup (es.map V.int)) ∧ hs.length ≤ 100 ∧ Held es.length hs ∧
  ∀ H' D, Same H H' → H D = none → H' D = some (.tup ((carL hs es).map V.int)) → Q (.ref D) H'
set_option maxHeartbeats 4000000 in
theorem ok_law_carried (T : Top K mg) {f : Addr} {fd : FuncData} (D : Def K mg "_law_carried" s_law_carried ["held", "entries"] f fd) : FnOk P w K mg base CX0 1 f fd ["held", "entries"] (sp_law_carried K) := by
  refine D.F.ok sc_law_carried (fun vs H Q E h => ?_) (fun cdv A outer s H vs Q E hr h => ?_)
  · obtain ⟨a, b, hs, es, rfl, _⟩ := h
    rfl
  · obtain ⟨a, b, hs, es, rfl, hA, hB, hl, hh, q⟩ := h
    refine ⟨_, (pss_one (ps_ret (pe_callTy (r := rTupQ K) call_tupQ (by rfl) T.b_tuple (by decide +kernel) (pa_cons (pe_lc (own := [("k", 2)]) (g := gName 2) (tt := tYes) rfl sc_law_carried.nd (pi_tup (pv 0))
      (blkOk_by (own := [("k", 2)]) (N := ["held", "entries", "k"]) (sc := defScope s_law_carried) (by decide +kernel)) (fun _ _ _ _ _ => (pg_name (i := 2) sc_law_carried.nd rfl (.inl rfl))) (fun _ _ _ _ _ => pts_nil)
      (fun _ _ _ _ _ => (pe_ifExp (pt_cmpR op_ge (pv 2) pe_int (nomark _)) (pe_ix (r := rIxT K) ix_tup (pv 1) (pv 2) (fun _ _ => rfl)) (pe_un un_neg pe_int)))) pa_nil)))), ?_⟩
    walk_at "rd"
    refine lc_map (walk_tup (xs := hs.map V.int)) ((carL hs es).map V.int) ?_ ?_ (fun H' S => SqT.of (S _ _ hA)) ?_ ?_
    · simp [carL]
    · rw [List.length_map]
      omega
    · rintro i x H3 H4 Qc R hi S ⟨rfl, ex⟩ qc
      have hi2 : i < hs.length := by rw [List.length_map] at hi; exact hi
      have eg := car_get (es := es) hi2
      rw [List.getElem?_map, List.getElem?_eq_getElem hi2] at ex
      cases ex
      have hk := hh _ (List.getElem_mem hi2)
      generalize hs[i] = k at *
      have hB2 : H4 b = some (.tup (es.map V.int)) := S _ _ hB
      walk_at "rd"
      refine ⟨rfl, ?_⟩
      walk_at "rd"
      refine ite2 (fun z => ?_) (fun z => ?_)
      · have z1 : 0 ≤ k := of_decide_eq_true z
        have hk2 : 0 ≤ k ∧ k < es.length := by omega
        have ea := atI_ints hk2.1 hk2.2
        rw [if_neg (by omega)] at eg
        walk_at "rd"
        exact qc _ _ (Same.refl _) eg
      · have z1 : ¬ 0 ≤ k := fun e => z (decide_eq_true e)
        rw [if_pos (by omega)] at eg
        walk_at "rd"
        exact qc _ _ (Same.refl _) eg
    · intro H3 D S nD hD
      walk_at "rd"
      intro l nl
      exact q _ _ (same_new S nl) (S.free nl) upd_same
def sp_law_view (_K : PySem.W.Frag) : Sp := fun vs H Q _ => ∃ (a : Addr) (es : List Int), vs = [.ref a] ∧ H a = some (.tup (es.map V.int)) ∧ Img es ∧ ∀ H', Same H H' → Q (.str (txt (codes es))) H'
set_option maxHeartbeats 4000000 in
theorem ok_law_view (T : Top K mg) {f : Addr} {fd : FuncData} (D : Def K mg "_law_view" s_law_view ["image"] f fd) : FnOk P w K mg base CX0 1 f fd ["image"] (sp_law_view K) := by
  refine D.F.ok sc_law_view (fun vs H Q E h => ?_) (fun cdv A outer s H vs Q E hr h => ?_)
  · obtain ⟨a, es, rfl, _⟩ := h
    rfl
  · obtain ⟨a, es, rfl, hT, I, q⟩ := h
    obtain ⟨I1, I2, I3⟩ := I
    refine ⟨_, (pss_one (ps_ret (pe_join pe_str (pe_lc (own := [("entry", 1)]) (g := gName 1) (tt := tYes) rfl sc_law_view.nd (pi_tup (pv 0))
      (blkOk_by (own := [("entry", 1)]) (N := ["image", "entry"]) (sc := defScope s_law_view) (by decide +kernel)) (fun _ _ _ _ _ => (pg_name (i := 1) sc_law_view.nd rfl (.inl rfl))) (fun _ _ _ _ _ => pts_nil)
      (fun _ _ _ _ _ => (pe_ifExp (pt_cmpR op_eq (pv 1) (pe_un un_neg pe_int) (nomark _)) pe_str (pe_callTy call_strQ (by rfl) T.b_str (by decide +kernel) (pa_cons (pe_op op_fdivN (pv 1) pe_int) pa_nil)))))))), ?_⟩
    walk_at "rd"
    refine lc_map (walk_tup (xs := es.map V.int)) ((codes es).map fun c => V.str (one c)) ?_ ?_ (fun H' S => SqT.of (S _ _ hT)) ?_ ?_
    · simp [codes]
    · rw [List.length_map]
      omega
    · rintro i x H2 H3 Qc R hi S ⟨rfl, ex⟩ qc
      have hi2 : i < es.length := by rw [List.length_map] at hi; exact hi
      rw [List.getElem?_map, List.getElem?_eq_getElem hi2] at ex
      cases ex
      have ⟨k0, k1⟩ := I3 _ (List.getElem_mem hi2)
      have eg : ((codes es).map fun c => V.str (one c))[i]? = some (.str (one (sg es[i]))) := by
        unfold codes
        rw [List.map_map, List.getElem?_map, List.getElem?_eq_getElem hi2]
        rfl
      generalize es[i] = k at *
      walk_at "rd"
      refine ⟨rfl, ?_⟩
      walk_at "rd"
      unfold sg at eg
      refine ite2 (fun z => ?_) (fun z => ?_)
      · have z1 : k = -1 := V.int.inj (of_decide_eq_true z)
        walk_at "rd"
        rw [if_pos z1] at eg
        exact qc _ _ (Same.refl _) eg
      · have z1 : k ≠ -1 := fun e => z (by rw [e]; rfl)
        rw [if_neg z1] at eg
        walk_at "rd"
        obtain ⟨j0, j1⟩ := kind_small (e := k) (by omega) k1
        refine rd_strQ j0 j1 ?_
        rw [digit_txtI j0 j1]
        exact qc _ _ (Same.refl _) eg
    · intro H2 D S nD hD
      refine ⟨_, D, (codes es).map one, rfl, rfl, .inl (SqL.of (by rw [List.map_map]; exact hD)), ?_, ?_⟩
      · rw [ones_sum, List.length_map, codes_len]
        show es.length + es.length * 0 ≤ _
        omega
      · rw [join_sg]
        exact q _ S
def sp_law_fits (_K : PySem.W.Frag) : Sp := fun vs H Q _ => ∃ gs cs : List Nat, vs = [.str (txt gs), .str (txt cs)] ∧ cs.length ≤ 12 ∧ gs.length ≤ cs.length ∧ (∀ c ∈ gs, Sign c) ∧ Q (.bl (fitsL gs cs)) H
set_option maxHeartbeats 4000000 in
theorem ok_law_fits (T : Top K mg) {f : Addr} {fd : FuncData} (D : Def K mg "_law_fits" s_law_fits ["guard", "view"] f fd) : FnOk P w K mg base CX0 1 f fd ["guard", "view"] (sp_law_fits K) := by
  refine D.F.ok sc_law_fits (fun vs H Q E h => ?_) (fun cdv A outer s H vs Q E hr h => ?_)
  · obtain ⟨gs, cs, rfl, _⟩ := h
    rfl
  · obtain ⟨gs, cs, rfl, hl, hle, hsg, q⟩ := h
    have hz1 := txt_small (cs := gs) (by omega)
    have hz2 := txt_small (cs := cs) (by omega)
    have hrg : -100000 ≤ ((txt gs).length : Int) ∧ ((txt gs).length : Int) ≤ 100000 := by rw [txt_len]; omega
    refine ⟨_, (pss_cons (ps_for PassesOwn.never rfl (pi_range1 (by rfl) T.b_range (pa_cons (pe_callB call_lenZ (by rfl) T.b_len PySem.boot_len (pa_cons (pv 0) pa_nil)) pa_nil)) (pg_name (i := 2) sc_law_fits.nd rfl (.inl rfl)) (pss_cons (ps_if (PW.pt (pw_and (pt_cmpR op_eq (pe_ix ix_str (pv 0) (pv 2) (fun _ _ => rfl)) pe_str (nomark _)) (pw_and1 (pt_cmpR op_ne (pe_ix ix_str (pv 1) (pv 2) (fun _ _ => rfl)) pe_str (nomark _))))) (pss_one (ps_ret pe_bl)) pss_nil)
    (pss_cons (ps_if (PW.pt (pw_and (pt_cmpR op_eq (pe_ix ix_str (pv 0) (pv 2) (fun _ _ => rfl)) pe_str (nomark _)) (pw_and1 (pt_cmpR op_eq (pe_ix ix_str (pv 1) (pv 2) (fun _ _ => rfl)) pe_str (nomark _))))) (pss_one (ps_ret pe_bl)) pss_nil)
    (pss_one (ps_if (PW.pt (pw_and (pt_cmpR op_sgnQ (pe_ix ix_str (pv 0) (pv 2) (fun _ _ => rfl)) pe_str rfl) (pw_and1 (pt_cmpR op_ne (pe_ix ix_str (pv 1) (pv 2) (fun _ _ => rfl)) (pe_ix ix_str (pv 0) (pv 2) (fun _ _ => rfl)) (nomark _))))) (pss_one (ps_ret pe_bl)) pss_nil)))))
    (pss_one (ps_ret pe_bl))), ?_⟩
    walk_at "rd"
    refine fr_rng0 (fun i σ H' => ∃ y, σ = [some (.str (txt gs)), some (.str (txt cs)), y] ∧ H' = H ∧ ∀ (k : Nat) (h : k < gs.length), k < i → fitC gs[k] (cs[k]'(by omega)) = true) ⟨none, rfl, rfl, fun k _ h => absurd h (Nat.not_lt_zero _)⟩ ?_ ?_
    · rintro i σ H1 hi ⟨y, rfl, rfl, hp⟩
      have hi1 : i < gs.length := by rw [← txt_len gs]; exact hi
      have ea : atI (txt gs).cps.toList (i : Int) = some gs[i] := atI_get (xs := gs) hi1
      have eb : atI (txt cs).cps.toList (i : Int) = some (cs[i]'(by omega)) := atI_get (xs := cs) (by omega)
      have bad : fitC gs[i] (cs[i]'(by omega)) = false → Q (.bl false) H1 := fun e => by
        have f : fitsL gs cs = false := by
          refine Bool.eq_false_iff.mpr fun k => ?_
          rw [(fits_iff hle).mp k i hi1] at e
          cases e
        rw [f] at q
        exact q
      have good : fitC gs[i] (cs[i]'(by omega)) = true → ∀ (k : Nat) (h : k < gs.length), k < i + 1 → fitC gs[k] (cs[k]'(by omega)) = true := fun e k h1 h2 => by
        by_cases ek : k = i
        · subst ek
          exact e
        · exact hp k h1 (by omega)
      have sgi := hsg _ (List.getElem_mem hi1)
      generalize gs[i] = c at *
      generalize (cs[i]'(by omega)) = v at *
      have cv : ∀ {a : Nat} {z : Str}, z = one a → ∀ b : Nat, (V.str ⟨#[b]⟩ = V.str z ↔ b = a) := fun e b => by rw [e]; exact sxx
      have c46 := cv (show Str.ofString "." = one 46 from rfl) c
      have c42 := cv (show Str.ofString "*" = one 42 from rfl) c
      have v46 := cv (show Str.ofString "." = one 46 from rfl) v
      have vc : (V.str ⟨#[v]⟩ = V.str ⟨#[c]⟩ ↔ v = c) := sxx
      have cd : c ∈ (Str.ofString "0123456789").cps.toList ↔ (48 ≤ c ∧ c ≤ 57) := by
        show c ∈ [48, 49, 50, 51, 52, 53, 54, 55, 56, 57] ↔ _
        simp
        omega
      unfold fitC at bad good
      walk_at "rd"
      refine ite2 (fun z => ?_) (fun z => ?_)
      · have z1 : c = 46 := c46.mp (of_decide_eq_true z)
        have n2 : ¬ (V.str ⟨#[c]⟩ = V.str (Str.ofString "*")) := fun k => by have := c42.mp k; omega
        have n3 : ¬ (c ∈ (Str.ofString "0123456789").cps.toList) := fun k => by have := cd.mp k; omega
        walk_at "rd"
        refine ite2 (fun y => ?_) (fun y => ?_)
        · walk_at "rd"
          refine bad ?_
          rw [if_neg (by omega), if_neg (by omega)]
          refine decide_eq_false fun k => ?_
          rw [decide_eq_true (v46.mpr (by omega))] at y
          cases y
        · walk_at "rd"
          refine ⟨_, rfl, rfl, good ?_⟩
          rw [if_neg (by omega), if_neg (by omega)]
          refine decide_eq_true ?_
          have : v = 46 := by
            by_cases k : v = 46
            · exact k
            · rw [decide_eq_false (fun e => k (v46.mp e))] at y
              exact absurd rfl y
          omega
      · have z1 : c ≠ 46 := fun k => z (decide_eq_true (c46.mpr k))
        walk_at "rd"
        refine ite2 (fun x => ?_) (fun x => ?_)
        · have x1 : c = 42 := c42.mp (of_decide_eq_true x)
          have n3 : ¬ (c ∈ (Str.ofString "0123456789").cps.toList) := fun k => by have := cd.mp k; omega
          walk_at "rd"
          refine ite2 (fun y => ?_) (fun y => ?_)
          · have y1 : v = 46 := v46.mp (of_decide_eq_true y)
            walk_at "rd"
            refine bad ?_
            rw [if_neg (by omega), if_pos x1, decide_eq_true y1]
            rfl
          · have y1 : v ≠ 46 := fun k => y (decide_eq_true (v46.mpr k))
            walk_at "rd"
            refine ⟨_, rfl, rfl, good ?_⟩
            rw [if_neg (by omega), if_pos x1, decide_eq_false y1]
            rfl
        · have x1 : c ≠ 42 := fun k => x (decide_eq_true (c42.mpr k))
          walk_at "rd"
          refine ite2 (fun y => ?_) (fun y => ?_)
          · have y1 := cd.mp (of_decide_eq_true y)
            walk_at "rd"
            refine ite2 (fun u => ?_) (fun u => ?_)
            · walk_at "rd"
              refine bad ?_
              rw [if_neg (by omega), if_neg x1]
              refine decide_eq_false fun k => ?_
              rw [decide_eq_true (vc.mpr k.symm)] at u
              cases u
            · walk_at "rd"
              refine ⟨_, rfl, rfl, good ?_⟩
              rw [if_neg (by omega), if_neg x1]
              refine decide_eq_true ?_
              by_cases k : v = c
              · exact k.symm
              · rw [decide_eq_false (fun e => k (vc.mp e))] at u
                exact absurd rfl u
          · have y1 : ¬ (48 ≤ c ∧ c ≤ 57) := fun k => y (decide_eq_true (cd.mpr k))
            walk_at "rd"
            refine ⟨_, rfl, rfl, good ?_⟩
            rw [if_pos (by unfold Sign at sgi; omega)]
    · rintro σ H1 ⟨y, rfl, rfl, hp⟩
      walk_at "rd"
      have f : fitsL gs cs = true := (fits_iff hle).mpr fun k h => hp k h (by show k < (txt gs).length; rw [txt_len]; exact h)
      rw [f] at q
      exact q
def sp_law_works (_K : PySem.W.Frag) : Sp := fun vs H Q _ => ∃ (a : Addr) (r : Ln) (cs : List Nat), vs = [.ref a, .str (txt cs)] ∧ H a = some (.tup r.vals) ∧ cs.length ≤ 12 ∧ LnOk cs.length r ∧ Q (.bl (worksL r cs)) H
set_option maxHeartbeats 4000000 in
theorem ok_law_works (T : Top K mg) {f : Addr} {fd : FuncData} (D : Def K mg "_law_works" s_law_works ["row", "view"] f fd) : FnOk P w K mg base CX0 2 f fd ["row", "view"] (sp_law_works K) := by
  obtain ⟨f_law_fits, fd_law_fits, D_law_fits⟩ := T.d__law_fits
  have G_law_fits : FnOk P w K mg base CX0 1 f_law_fits fd_law_fits ["guard", "view"] (sp_law_fits K) := ok_law_fits T D_law_fits
  refine D.F.ok sc_law_works (fun vs H Q E h => ?_) (fun cdv A outer s H vs Q E hr h => ?_)
  · obtain ⟨a, r, cs, rfl, _⟩ := h
    rfl
  · obtain ⟨a, r, cs, rfl, hT, hl, ok, q1⟩ := h
    refine ⟨_, (pss_one (ps_ret (pe_and (pe_call G_law_fits hr (by rfl) D_law_fits.g D_law_fits.F.kp D_law_fits.b .nil pass0 (pa_cons (pe_ix (r := rIxT K) ix_tup (pv 0) pe_int (fun _ _ => rfl)) (pa_cons (pv 1) pa_nil))) (pe_one (pe_or (pe_cmpR op_eq (pe_ix (r := rIxT K) ix_tup (pv 0) pe_int (fun _ _ => rfl)) pe_str (nomark _)) (pe_one (pe_cmpR op_ne (pe_ix ix_str (pv 1) (pe_ix (r := rIxT K) ix_tup (pv 0) pe_int (fun _ _ => rfl)) (fun _ _ => rfl)) pe_str (nomark _)))))))), ?_⟩
    have hz := txt_small (cs := cs) (by omega)
    walk_at "rd"
    refine ⟨r.g, cs, rfl, hl, ok.gle, ok.gs, ?_⟩
    walk_at "rd"
    unfold worksL at q1
    refine ite2 (fun z => ?_) (fun z => ?_)
    · rw [z, Bool.true_and] at q1
      walk_at "rd"
      refine ite2 (fun y => ?_) (fun y => ?_)
      · have y1 : r.w = sClear := V.str.inj (of_decide_eq_true y)
        rw [decide_eq_true y1, Bool.true_or] at q1
        exact q1
      · have y1 : r.w ≠ sClear := fun k => y (by rw [k]; rfl)
        rw [decide_eq_false y1, Bool.false_or] at q1
        rcases ok.word with ⟨e, _⟩ | ⟨_, o0, o1, _⟩
        · exact absurd e y1
        · have e1 := atI_cods o0 o1
          walk_at "rd"
          have ev : fullAt cs r.o = !decide (V.str ⟨#[cs.getD r.o.toNat 0]⟩ = V.str (Str.ofString ".")) := by
            unfold fullAt
            exact congrArg not (decide_eq_decide.mpr sxx.symm)
          rw [← ev]
          exact q1
    · rw [Bool.eq_false_iff.mpr z, Bool.false_and] at q1
      exact q1
def sp_law_origins (_K : PySem.W.Frag) : Sp := fun vs H Q _ => ∃ (a : Addr) (r : Ln) (cs : List Nat), vs = [.ref a, .str (txt cs)] ∧ H a = some (.tup r.vals) ∧ cs.length ≤ 12 ∧ LnOk cs.length r ∧ ∀ H' D, Same H H' → H D = none → H' D = some (.tup ((origL r cs).map V.int)) → Q (.ref D) H'
set_option maxHeartbeats 4000000 in
theorem ok_law_origins (T : Top K mg) {f : Addr} {fd : FuncData} (D : Def K mg "_law_origins" s_law_origins ["row", "view"] f fd) : FnOk P w K mg base CX0 3 f fd ["row", "view"] (sp_law_origins K) := by
  obtain ⟨f_law_works, fd_law_works, D_law_works⟩ := T.d__law_works
  have G_law_works : FnOk P w K mg base CX0 2 f_law_works fd_law_works ["row", "view"] (sp_law_works K) := ok_law_works T D_law_works
  refine D.F.ok sc_law_origins (fun vs H Q E h => ?_) (fun cdv A outer s H vs Q E hr h => ?_)
  · obtain ⟨a, r, cs, rfl, _⟩ := h
    rfl
  · obtain ⟨a, r, cs, rfl, hT, hl, ok, q⟩ := h
    have hz := txt_small (cs := cs) (by omega)
    have hrg : -100000 ≤ ((txt cs).length : Int) ∧ ((txt cs).length : Int) ≤ 100000 := by rw [txt_len]; omega
    refine ⟨_, (pss_cons (ps_setLc (i := 2) (own := [("k", 3)]) (g := gName 3) (tt := tYes) rfl sc_law_origins.nd rfl rfl (sw_true rfl rfl rfl (by decide +kernel)) (pi_range1 (by rfl) T.b_range (pa_cons (pe_callB call_lenZ (by rfl) T.b_len PySem.boot_len (pa_cons (pv 1) pa_nil)) pa_nil))
      (blkOk_by (own := [("k", 3)]) (N := ["row", "view", "held", "k"]) (sc := defScope s_law_origins) (by decide +kernel)) (fun _ _ _ _ _ => (pg_name (i := 3) sc_law_origins.nd rfl (.inl rfl))) (fun _ _ _ _ _ => pts_nil)
      (fun _ _ _ _ _ => (pe_ifExp (pt_cmpR op_ne (pe_ix ix_str (pv 1) (pv 3) (fun _ _ => rfl)) pe_str (nomark _)) (pv 3) (pe_un un_neg pe_int))))
    (C8.pss_cut (ps_if (pt_val (pe_call G_law_works hr (by rfl) D_law_works.g D_law_works.F.kp D_law_works.b .nil pass0 (pa_cons (pv 0) (pa_cons (pv 1) pa_nil)))) (pss_cons (ps_asg (pe_ix (r := rIxT K) ix_tup (pv 0) pe_int (fun _ _ => rfl)) (pg_sub (pv 2) (pe_ix (r := rIxT K) ix_tup (pv 0) pe_int (fun _ _ => rfl)) set_list))
    (pss_one (ps_if (pt_cmpR op_eq (pe_ix (r := rIxT K) ix_tup (pv 0) pe_int (fun _ _ => rfl)) pe_str (nomark _)) (pss_one (ps_asg (pe_un un_neg pe_int) (pg_sub (pv 2) (pe_ix (r := rIxT K) ix_tup (pv 0) pe_int (fun _ _ => rfl)) set_list))) pss_nil))) pss_nil)
    (pss_one (ps_ret (pe_callTy (r := rTupQ K) call_tupQ (by rfl) T.b_tuple (by decide +kernel) (pa_cons (pv 2) pa_nil)))))), ?_⟩
    walk_at "rd"
    refine lc_map walk_rng ((baseL cs).map V.int) ?_ ?_ (fun _ _ => trivial) ?_ ?_
    · rw [List.length_map, base_len]
      exact (txt_len cs).symm
    · show (txt cs).length ≤ 1000
      rw [txt_len]
      omega
    · rintro i x H2 H3 Qc R hi S ⟨rfl, rfl⟩ qc
      have h1 : i < cs.length := by rw [← txt_len cs]; exact hi
      have eb : ((baseL cs).map V.int)[i]? = some (.int (if cs.getD i 0 = 46 then -1 else (i : Int))) := by
        unfold baseL
        rw [List.map_map, List.getElem?_map, List.getElem?_range h1]
        rfl
      have ec : cs.getD i 0 = cs[i] := by rw [List.getD_eq_getElem?_getD, List.getElem?_eq_getElem h1]; rfl
      have ea : atI (txt cs).cps.toList (i : Int) = some cs[i] := atI_get (xs := cs) h1
      rw [ec] at eb
      generalize cs[i] = v at *
      walk_at "rd"
      refine ⟨rfl, ?_⟩
      walk_at "rd"
      have v46 : (V.str ⟨#[v]⟩ = V.str (Str.ofString ".")) ↔ v = 46 := sxx
      refine ite2 (fun z => ?_) (fun z => ?_)
      · have z1 : v ≠ 46 := fun k => by
          rw [decide_eq_true (v46.mpr k)] at z
          cases z
        rw [if_neg z1] at eb
        walk_at "rd"
        exact qc _ _ (Same.refl _) eb
      · have z1 : v = 46 := by
          by_cases k : v = 46
          · exact k
          · rw [decide_eq_false (fun e => k (v46.mp e))] at z
            exact absurd rfl z
        rw [if_pos z1] at eb
        walk_at "rd"
        exact qc _ _ (Same.refl _) eb
    · intro H1 D1 S1 nD hD
      walk_at "rd"
      refine ⟨fun σ' H' => ∃ y3, σ' = [some (.ref a), some (.str (txt cs)), some (.ref D1), y3] ∧ Same H H' ∧ H' D1 = some (.lst ((origL r cs).map V.int)), ?_, ?_⟩
      · walk_at "rd"
        refine ⟨a, r, cs, rfl, S1 _ _ hT, hl, ok, ?_⟩
        have hT1 : H1 a = some (.tup r.vals) := S1 _ _ hT
        walk_at "rd"
        refine ite2 (fun z => ?_) (fun z => ?_)
        · have nDa : a ≠ D1 := ne_of_none hT nD
          have et : ixN ((baseL cs).map V.int).length r.t = some r.t.toNat := ixN_of (by have := ok.t0; omega) (by rw [List.length_map, base_len]; have := ok.t0; have := ok.t1; omega)
          walk_at "rd"
          have eo : origL r cs = if r.w = sMove then ((baseL cs).set r.t.toNat r.o).set r.o.toNat (-1) else (baseL cs).set r.t.toNat r.o := if_pos z
          have e1 : ((baseL cs).map V.int).set r.t.toNat (.int r.o) = ((baseL cs).set r.t.toNat r.o).map V.int := (List.map_set ..).symm
          refine ite2 (fun y => ?_) (fun y => ?_)
          · have y1 : r.w = sMove := V.str.inj (of_decide_eq_true y)
            rw [if_pos y1] at eo
            have y2 : 0 ≤ r.o ∧ r.o < cs.length := by
              rcases ok.word with ⟨e, _⟩ | ⟨_, o0, o1, _⟩
              · rw [y1] at e
                exact absurd e (by decide)
              · exact ⟨o0, o1⟩
            have eq : ixN (((baseL cs).map V.int).set r.t.toNat (.int r.o)).length r.o = some r.o.toNat := ixN_of (by omega) (by rw [List.length_set, List.length_map, base_len]; omega)
            walk_at "rd"
            refine ⟨_, rfl, same_mut (same_mut S1 nD) nD, ?_⟩
            rw [upd_same, eo, e1]
            exact congrArg (fun z => some (HO.lst z)) (List.map_set ..).symm
          · have y1 : r.w ≠ sMove := fun k => y (by rw [k]; rfl)
            rw [if_neg y1] at eo
            walk_at "rd"
            refine ⟨_, rfl, same_mut S1 nD, ?_⟩
            rw [upd_same, eo, e1]
        · have eo : origL r cs = baseL cs := if_neg z
          walk_at "rd"
          refine ⟨_, rfl, S1, ?_⟩
          rw [eo]
          exact hD
      · rintro σ' H' ⟨y3, rfl, S, hD'⟩
        walk_at "rd"
        intro l nl
        exact q _ _ (same_new S nl) (S.free nl) upd_same
def sp_law_script (_K : PySem.W.Frag) : Sp := fun vs H Q _ => ∃ (c b A : Addr) (ns es : List Int) (n : Nat), vs = [.ref b, .int n, .ref A] ∧ Bag c ns b H ∧ 1 ≤ n ∧ n ≤ 12 ∧ H A = some (.tup (es.map V.int)) ∧ Img es ∧ es.length = n ∧
  ∀ H' D ps rs, Wd c ns b H H' → H D = none → H' D = some (.lst (ps.map V.ref)) → TupsAt H' ps (rows rs) → rs.length ≤ 60 → (∀ r ∈ rs, LnOk n r) → Q (.ref D) H'
set_option maxHeartbeats 4000000 in
theorem ok_law_script (T : Top K mg) {f : Addr} {fd : FuncData} (D : Def K mg "_law_script" s_law_script ["bag", "n", "image"] f fd) : FnOk P w K mg base CX0 4 f fd ["bag", "n", "image"] (sp_law_script K) := by
  obtain ⟨f_law_draw, fd_law_draw, D_law_draw⟩ := T.d__law_draw
  have G_law_draw : FnOk P w K mg base CX0 1 f_law_draw fd_law_draw ["bag", "many"] (sp_law_draw K) := ok_law_draw T D_law_draw
  obtain ⟨f_law_row, fd_law_row, D_law_row⟩ := T.d__law_row
  have G_law_row : FnOk P w K mg base CX0 3 f_law_row fd_law_row ["bag", "n", "view"] (sp_law_row K) := ok_law_row T D_law_row
  obtain ⟨f_law_carried, fd_law_carried, D_law_carried⟩ := T.d__law_carried
  have G_law_carried : FnOk P w K mg base CX0 1 f_law_carried fd_law_carried ["held", "entries"] (sp_law_carried K) := ok_law_carried T D_law_carried
  obtain ⟨f_law_view, fd_law_view, D_law_view⟩ := T.d__law_view
  have G_law_view : FnOk P w K mg base CX0 1 f_law_view fd_law_view ["image"] (sp_law_view K) := ok_law_view T D_law_view
  obtain ⟨f_law_origins, fd_law_origins, D_law_origins⟩ := T.d__law_origins
  have G_law_origins : FnOk P w K mg base CX0 3 f_law_origins fd_law_origins ["row", "view"] (sp_law_origins K) := ok_law_origins T D_law_origins
  refine D.F.ok sc_law_script (fun vs H Q E h => ?_) (fun cdv A outer s H vs Q E hr h => ?_)
  · obtain ⟨c, b, A, ns, es, n, rfl, _⟩ := h
    rfl
  · obtain ⟨c, b, A, ns, es, n, rfl, B, n1, n12, hA, I, le, q⟩ := h
    refine ⟨_, (pss_cons (ps_set (i := 3) sc_law_script.nd rfl (.inl rfl) (pe_call G_law_draw (hr.mono (by decide)) (by rfl) D_law_draw.g D_law_draw.F.kp D_law_draw.b .nil pass0 (pa_cons (pv 0) (pa_cons pe_int pa_nil))))
    (C8.pss_cut (ps_if (pt_cmpR op_eq (pe_call G_law_draw (hr.mono (by decide)) (by rfl) D_law_draw.g D_law_draw.F.kp D_law_draw.b .nil pass0 (pa_cons (pv 0) (pa_cons pe_int pa_nil))) pe_int (nomark _)) (pss_one (ps_set (i := 3) sc_law_script.nd rfl (.inl rfl) (pe_op op_add pe_int (pe_call G_law_draw (hr.mono (by decide)) (by rfl) D_law_draw.g D_law_draw.F.kp D_law_draw.b .nil pass0 (pa_cons (pv 0) (pa_cons pe_int pa_nil)))))) pss_nil)
    (pss_cons (ps_set (i := 4) sc_law_script.nd rfl (.inl rfl) (pe_lst pa_nil))
    (pss_cons (ps_for PassesOwn.never rfl (pi_range1 (by rfl) T.b_range (pa_cons (pv 3) pa_nil)) (pg_name (i := 5) sc_law_script.nd rfl (.inl rfl)) (pss_cons (ps_set (i := 6) sc_law_script.nd rfl (.inl rfl) (pe_call G_law_row hr (by rfl) D_law_row.g D_law_row.F.kp D_law_row.b .nil pass0 (pa_cons (pv 0) (pa_cons (pv 1) (pa_cons (pe_call G_law_view (hr.mono (by decide)) (by rfl) D_law_view.g D_law_view.F.kp D_law_view.b .nil pass0 (pa_cons (pv 2) pa_nil)) pa_nil)))))
    (pss_cons (ps_expr (pe_bm PySem.F.plainAttrs_list PySem.F.slot_list_append PySem.F.type_list_append mt_append (pv 4) (pa_cons (pv 6) pa_nil)))
    (pss_one (ps_set (i := 2) sc_law_script.nd rfl (.inl rfl) (pe_call G_law_carried (hr.mono (by decide)) (by rfl) D_law_carried.g D_law_carried.F.kp D_law_carried.b .nil pass0 (pa_cons (pe_call G_law_origins hr (by rfl) D_law_origins.g D_law_origins.F.kp D_law_origins.b .nil pass0 (pa_cons (pv 6) (pa_cons (pe_call G_law_view (hr.mono (by decide)) (by rfl) D_law_view.g D_law_view.F.kp D_law_view.b .nil pass0 (pa_cons (pv 2) pa_nil)) pa_nil))) (pa_cons (pv 2) pa_nil))))))))
    (pss_one (ps_ret (pv 4))))))), ?_⟩
    walk_at "re"
    refine ⟨c, b, ns, 9, rfl, B, by decide, by decide, fun H1 d w1 d0 d1 => ?_⟩
    walk_at "re"
    refine ⟨fun σ' H' => ∃ d : Int, σ' = [some (.ref b), some (.int n), some (.ref A), some (.int d), none, none, none] ∧ Wd c ns b H H' ∧ 0 ≤ d ∧ d ≤ 60, ?_, ?_⟩
    · walk_at "re"
      refine ⟨c, b, ns, 6, rfl, w1.b1, by decide, by decide, fun H2 e w2 e0 e1 => ?_⟩
      walk_at "re"
      refine ite2 (fun z => ?_) (fun z => ?_)
      · walk_at "re"
        refine ⟨c, b, ns, 41, rfl, w2.b1, by decide, by decide, fun H3 u w3 u0 u1 => ?_⟩
        walk_at "re"
        exact ⟨20 + u, rfl, (w1.trans w2).trans w3, by omega, by omega⟩
      · walk_at "re"
        exact ⟨d, rfl, w1.trans w2, by omega, by omega⟩
    · rintro σ' H' ⟨d, rfl, w, d0, d1⟩
      walk_at "re"
      refine ⟨by decide, fun l nl => ?_⟩
      have nl0 := w.free nl
      have nlb := B.ne nl0
      have hrg : -100000 ≤ d ∧ d ≤ 100000 := by omega
      walk_at "re"
      refine fr_rng0 (fun i σ H' => ∃ (D : Addr) (cur : List Int) (ps : List Addr) (rs : List Ln) (y5 y6 : Option V), σ = [some (.ref b), some (.int n), some (.ref D), some (.int d), some (.ref l), y5, y6] ∧ Wd c ns b H H' ∧ H' D = some (.tup (cur.map V.int)) ∧ Img cur ∧ cur.length = n ∧ H' l = some (.lst (ps.map V.ref)) ∧ TupsAt H' ps (rows rs) ∧ rs.length = i ∧ ∀ r ∈ rs, LnOk n r)
        ⟨A, es, [], [], none, none, rfl, w.mut nl0, (w.mut nl0).tup hA, I, le, upd_same, TupsAt.nil, rfl, fun r hr => absurd hr List.not_mem_nil⟩ ?_ ?_
      · rintro i σ H3 hi ⟨D, cur, ps, rs, y5, y6, rfl, w3, hD, Ic, lc, hl, t, lr, ok⟩
        have hi60 : i < 60 := by omega
        have pl : ps.length = rs.length := t.1.trans (rows_len _)
        walk_at "re"
        refine ⟨D, cur, rfl, hD, Ic, fun H4 S4 => ?_⟩
        walk_at "re"
        refine ⟨c, b, ns, n, codes cur, rfl, w3.b1.same S4, n1, n12, by rw [codes_len]; exact lc, codes_sign Ic, fun H5 E r w5 nE hE okr => ?_⟩
        have w35 : Wd c ns b H3 H5 := (Wd.ofSame w3.b1 S4).trans w5
        have hl5 := w35.lst nlb hl
        have hlen : (ps.map V.ref).length < 1000 := by rw [List.length_map]; omega
        walk_at "re"
        have t6 := ((t.wd w35).app hE).mut (o := .lst (ps.map V.ref ++ [.ref E])) hl5
        have w6 := (w3.trans w35).mut (o := .lst (ps.map V.ref ++ [.ref E])) nl0
        have hl6 : upd H5 l (.lst (ps.map V.ref ++ [.ref E])) l = some (.lst ((ps ++ [E]).map V.ref)) := by rw [upd_same, List.map_append]; rfl
        have tup6 : ∀ {x : Addr} {xs : List V}, H5 x = some (.tup xs) → upd H5 l (.lst (ps.map V.ref ++ [.ref E])) x = some (.tup xs) := fun {x xs} hx => by rw [upd_ne (ne_of hx hl5 (by intro z; cases z))]; exact hx
        have hD6 := tup6 (w35.tup hD)
        have hE6 := tup6 hE
        generalize upd H5 l (.lst (ps.map V.ref ++ [.ref E])) = H6 at *
        have okc : LnOk cur.length r := by rw [lc]; exact okr
        refine ⟨D, cur, rfl, hD6, Ic, fun H7 S7 => ?_⟩
        walk_at "re"
        refine ⟨E, r, codes cur, rfl, S7 _ _ hE6, by rw [codes_len]; omega, by rw [codes_len]; exact okc, fun H8 F S8 nF hF => ?_⟩
        have S68 := S7.trans S8
        walk_at "re"
        refine ⟨F, D, origL r (codes cur), cur, rfl, hF, S68 _ _ hD6, by rw [orig_len, codes_len]; omega, orig_held2 okc, fun H9 G S9 nG hG => ?_⟩
        have S69 := S68.trans S9
        walk_at "re"
        refine ⟨G, stepL r cur, ps ++ [E], rs ++ [r], _, _, rfl, w6.same S69, hG, step_img okc Ic, by rw [step_len]; exact lc, S69 _ _ hl6, by rw [rows_app]; exact t6.same S69, by rw [List.length_append, lr]; rfl, fun x hx => ?_⟩
        rcases List.mem_append.mp hx with k | k
        · exact ok x k
        · rw [List.mem_singleton.mp k]
          exact okr
      · rintro σ H3 ⟨D, cur, ps, rs, y5, y6, rfl, w3, hD, Ic, lc, hl, t, lr, ok⟩
        walk_at "re"
        exact q _ l ps rs w3 nl0 hl t (by omega) ok
def sp_law_led (_K : PySem.W.Frag) : Sp := fun vs H Q _ => ∃ (l : Addr) (ps : List Addr) (rs : List Ln) (cs : List Nat), vs = [.ref l, .str (txt cs)] ∧ H l = some (.lst (ps.map V.ref)) ∧ TupsAt H ps (rows rs) ∧ cs.length ≤ 12 ∧ (∀ r ∈ rs, LnOk cs.length r) ∧
  ∀ H' D, Same H H' → H' D = some (.tup ((flowP (baseL cs, cs) rs).1.map V.int)) → Q (.ref D) H'
set_option maxHeartbeats 4000000 in
theorem ok_law_led (T : Top K mg) {f : Addr} {fd : FuncData} (D : Def K mg "_law_led" s_law_led ["rows", "view"] f fd) : FnOk P w K mg base CX0 4 f fd ["rows", "view"] (sp_law_led K) := by
  obtain ⟨f_law_origins, fd_law_origins, D_law_origins⟩ := T.d__law_origins
  have G_law_origins : FnOk P w K mg base CX0 3 f_law_origins fd_law_origins ["row", "view"] (sp_law_origins K) := ok_law_origins T D_law_origins
  obtain ⟨f_law_carried, fd_law_carried, D_law_carried⟩ := T.d__law_carried
  have G_law_carried : FnOk P w K mg base CX0 1 f_law_carried fd_law_carried ["held", "entries"] (sp_law_carried K) := ok_law_carried T D_law_carried
  refine D.F.ok sc_law_led (fun vs H Q E h => ?_) (fun cdv A outer s H vs Q E hr h => ?_)
  · obtain ⟨l, ps, rs, cs, rfl, _⟩ := h
    rfl
  · obtain ⟨l, ps, rs, cs, rfl, hL, hR, l12, ok, q⟩ := h
    have pl : ps.length = rs.length := hR.1.trans (rows_len rs)
    have hz := txt_small (cs := cs) (by omega)
    have hrg : -100000 ≤ ((txt cs).length : Int) ∧ ((txt cs).length : Int) ≤ 100000 := by rw [txt_len]; omega
    refine ⟨_, (pss_cons (ps_set (i := 2) sc_law_led.nd rfl (.inl rfl) (pe_callTy (r := rTupQ K) call_tupQ (by rfl) T.b_tuple (by decide +kernel) (pa_cons (pe_lc (own := [("k", 5)]) (g := gName 5) (tt := tYes) rfl sc_law_led.nd (pi_range1 (by rfl) T.b_range (pa_cons (pe_callB call_lenZ (by rfl) T.b_len PySem.boot_len (pa_cons (pv 1) pa_nil)) pa_nil))
      (blkOk_by (own := [("k", 5)]) (N := ["rows", "view", "held", "row", "step", "k"]) (sc := defScope s_law_led) (by decide +kernel)) (fun _ _ _ _ _ => (pg_name (i := 5) sc_law_led.nd rfl (.inl rfl))) (fun _ _ _ _ _ => pts_nil)
      (fun _ _ _ _ _ => (pe_ifExp (pt_cmpR op_ne (pe_ix ix_str (pv 1) (pv 5) (fun _ _ => rfl)) pe_str (nomark _)) (pv 5) (pe_un un_neg pe_int)))) pa_nil)))
    (pss_cons (ps_for PassesOwn.never rfl (pi_list (pv 0)) (pg_name (i := 3) sc_law_led.nd rfl (.inl rfl)) (pss_cons (ps_set (i := 4) sc_law_led.nd rfl (.inl rfl) (pe_call G_law_origins hr (by rfl) D_law_origins.g D_law_origins.F.kp D_law_origins.b .nil pass0 (pa_cons (pv 3) (pa_cons (pv 1) pa_nil))))
    (pss_cons (ps_set (i := 2) sc_law_led.nd rfl (.inl rfl) (pe_call G_law_carried (hr.mono (by decide)) (by rfl) D_law_carried.g D_law_carried.F.kp D_law_carried.b .nil pass0 (pa_cons (pv 4) (pa_cons (pv 2) pa_nil))))
    (pss_one (ps_set (i := 1) sc_law_led.nd rfl (.inr rfl) (pe_join pe_str (pe_lc (own := [("k", 5)]) (g := gName 5) (tt := tYes) rfl sc_law_led.nd (pi_tup (pv 4))
      (blkOk_by (own := [("k", 5)]) (N := ["rows", "view", "held", "row", "step", "k"]) (sc := defScope s_law_led) (by decide +kernel)) (fun _ _ _ _ _ => (pg_name (i := 5) sc_law_led.nd rfl (.inl rfl))) (fun _ _ _ _ _ => pts_nil)
      (fun _ _ _ _ _ => (pe_ifExp (pt_cmpR op_ge (pv 5) pe_int (nomark _)) (pe_ix ix_str (pv 1) (pv 5) (fun _ _ => rfl)) pe_str)))))))))
    (pss_one (ps_ret (pv 2))))), ?_⟩
    walk_at "re"
    refine lc_map walk_rng ((baseL cs).map V.int) ?_ ?_ (fun _ _ => trivial) ?_ ?_
    · rw [List.length_map, base_len]
      exact (txt_len cs).symm
    · show (txt cs).length ≤ 1000
      rw [txt_len]
      omega
    · rintro i x H2 H3 Qc R hi S ⟨rfl, rfl⟩ qc
      have h1 : i < cs.length := by rw [← txt_len cs]; exact hi
      have eb : ((baseL cs).map V.int)[i]? = some (.int (if cs[i] = 46 then -1 else (i : Int))) := by
        rw [List.getElem?_map, List.getElem?_eq_getElem (by rw [base_len]; exact h1), base_get h1]
        rfl
      have ea : atI (txt cs).cps.toList (i : Int) = some cs[i] := atI_get (xs := cs) h1
      generalize cs[i] = v at *
      walk_at "re"
      refine ⟨rfl, ?_⟩
      walk_at "re"
      have v46 : (V.str ⟨#[v]⟩ = V.str (Str.ofString ".")) ↔ v = 46 := sxx
      refine ite2 (fun z => ?_) (fun z => ?_)
      · have z1 : v ≠ 46 := fun k => by
          rw [decide_eq_true (v46.mpr k)] at z
          cases z
        rw [if_neg z1] at eb
        walk_at "re"
        exact qc _ _ (Same.refl _) eb
      · have z1 : v = 46 := by
          by_cases k : v = 46
          · exact k
          · rw [decide_eq_false (fun e => k (v46.mp e))] at z
            exact absurd rfl z
        rw [if_pos z1] at eb
        walk_at "re"
        exact qc _ _ (Same.refl _) eb
    · intro H1 D0 S1 nD0 hD0
      walk_at "re"
      intro D1 nD1
      obtain ⟨H2, eH2, S2, hD2⟩ := new_gen (.tup ((baseL cs).map V.int)) nD1
      rw [← eH2]
      have S02 := S1.trans S2
      have hL2 := S02 _ _ hL
      walk_at "re"
      refine fr_it (walk_list (xs := ps.map V.ref)) (fun i σ H' => ∃ (y3 y4 : Option V) (o : Addr), σ = [some (.ref l), some (.str (txt (flowP (baseL cs, cs) (rs.take i)).2)), some (.ref o), y3, y4, none] ∧ Same H H' ∧ H' o = some (.tup ((flowP (baseL cs, cs) (rs.take i)).1.map V.int))) ⟨none, none, D1, rfl, S02, hD2⟩ (fun i σ H' _ p => ?_) ?_ ?_
      · obtain ⟨_, _, _, _, S, _⟩ := p
        exact SqL.of (S _ _ hL)
      · rintro i x σ H0 H3 hi ⟨y3, y4, o, rfl, S, ho⟩ ⟨rfl, ex⟩
        have hi2 : i < rs.length := by rw [List.length_map] at hi; omega
        obtain ⟨p, ep, hp⟩ := (hR.same S).get (i := i) (by rw [rows_len]; exact hi2)
        rw [List.getElem?_map, ep] at ex
        cases ex
        have er : (rows rs)[i]'(by rw [rows_len]; exact hi2) = rs[i].vals := by simp [rows]
        rw [er] at hp
        obtain ⟨k1, k2⟩ := flowP_ok (cs := cs) _ (rs.take i) rfl
        have oki := ok _ (List.getElem_mem hi2)
        have etk : flowP (baseL cs, cs) (rs.take (i + 1)) = (carL (origL rs[i] (flowP (baseL cs, cs) (rs.take i)).2) (flowP (baseL cs, cs) (rs.take i)).1, viewL rs[i] (flowP (baseL cs, cs) (rs.take i)).2) := by rw [take_next hi2, flowP_add]
        generalize rs[i] = r at *
        generalize (flowP (baseL cs, cs) (rs.take i)).1 = hh at *
        generalize (flowP (baseL cs, cs) (rs.take i)).2 = v at *
        have okv : LnOk v.length r := by rw [k2]; exact oki
        have hzv := txt_small (cs := v) (by omega)
        walk_at "re"
        refine ⟨p, r, v, rfl, hp, by omega, okv, fun H4 D4 S4 nD4 hD4 => ?_⟩
        have ho4 := S4 _ _ ho
        walk_at "re"
        refine ⟨D4, o, origL r v, hh, rfl, hD4, ho4, by rw [orig_len]; omega, by rw [k1, ← k2]; exact orig_held okv, fun H5 D5 S5 nD5 hD5 => ?_⟩
        have hD45 := S5 _ _ hD4
        walk_at "re"
        refine lc_map (walk_tup (xs := (origL r v).map V.int)) ((viewL r v).map fun c => V.str (one c)) ?_ ?_ (fun H' S => SqT.of (S _ _ hD45)) ?_ ?_
        · simp [viewL]
        · rw [List.length_map, orig_len]
          omega
        · rintro j x H0 H6 Qc R hj S6 ⟨rfl, ex⟩ qc
          have hj2 : j < (origL r v).length := by rw [List.length_map] at hj; exact hj
          rw [List.getElem?_map, List.getElem?_eq_getElem hj2] at ex
          cases ex
          have hk := orig_held okv _ (List.getElem_mem hj2)
          have eg : ((viewL r v).map fun c => V.str (one c))[j]? = some (.str (one (if (origL r v)[j] = -1 then 46 else v.getD (origL r v)[j].toNat 0))) := by
            unfold viewL
            rw [List.getElem?_map, List.getElem?_map, List.getElem?_eq_getElem hj2]
            rfl
          generalize (origL r v)[j] = k at *
          walk_at "re"
          refine ⟨rfl, ?_⟩
          walk_at "re"
          refine ite2 (fun z => ?_) (fun z => ?_)
          · have z1 : 0 ≤ k := of_decide_eq_true z
            have hk2 : 0 ≤ k ∧ k < v.length := by omega
            have ea := atI_cods hk2.1 hk2.2
            rw [if_neg (by omega)] at eg
            walk_at "re"
            exact qc _ _ (Same.refl _) eg
          · have z1 : ¬ 0 ≤ k := fun e => z (decide_eq_true e)
            rw [if_pos (by omega)] at eg
            walk_at "re"
            exact qc _ _ (Same.refl _) eg
        · intro H6 D6 S6 nD6 hD6
          have vl := view_len r v
          refine ⟨_, D6, (viewL r v).map one, rfl, rfl, .inl (SqL.of (by rw [List.map_map]; exact hD6)), ?_, ?_⟩
          · rw [ones_sum, List.length_map, vl]
            show v.length + v.length * 0 ≤ _
            omega
          · rw [join_sg]
            walk_at "re"
            have S06 := ((S.trans S4).trans S5).trans S6
            exact ⟨_, _, D5, by rw [etk]; rfl, S06, by rw [etk]; exact S6 _ _ hD5⟩
      · rintro σ H3 ⟨y3, y4, o, rfl, S, ho⟩
        rw [List.length_map, pl, List.take_of_length_le (Nat.le_refl _)] at ho
        walk_at "re"
        exact q _ o S ho
def spkept_blocks (_K : PySem.W.Frag) : Sp := fun vs H Q _ => ∃ cs : List Nat, vs = [.str (txt cs)] ∧ cs.length ≤ 12 ∧ ∀ H' D, Same H H' → H D = none → H' D = some (.lst ((baseL cs).map V.int)) → Q (.ref D) H'
set_option maxHeartbeats 4000000 in
theorem okkept_blocks (T : Top K mg) {f : Addr} {fd : FuncData} (D : Def K mg "kept_blocks" skept_blocks ["view"] f fd) : FnOk P w K mg base CX0 1 f fd ["view"] (spkept_blocks K) := by
  refine D.F.ok sckept_blocks (fun vs H Q E h => ?_) (fun cdv A outer s H vs Q E hr h => ?_)
  · obtain ⟨cs, rfl, _⟩ := h
    rfl
  · obtain ⟨cs, rfl, hl, q⟩ := h
    refine ⟨_, (pss_one (ps_ret (pe_lc (own := [("block", 1), ("seen", 2)]) (g := gTup K 2 (gCons (gName 1) (gCons (gName 2) gNil))) (tt := tYes) rfl sckept_blocks.nd (Rv.pi_enS (by rfl) T.b_enumerate (pa_cons (pv 0) pa_nil))
      (blkOk_by (own := [("block", 1), ("seen", 2)]) (N := ["view", "block", "seen"]) (sc := defScope skept_blocks) (by decide +kernel)) (fun _ _ _ _ _ => (pg_tup rfl (pgs_cons (pg_name (i := 1) sckept_blocks.nd rfl (.inl rfl)) (pgs_cons (pg_name (i := 2) sckept_blocks.nd rfl (.inl rfl)) pgs_nil)))) (fun _ _ _ _ _ => pts_nil)
      (fun _ _ _ _ _ => (pe_ifExp (pt_cmpR op_eq (pv 2) pe_str (nomark _)) (Rv.pe_k (by rfl) T.k_EMPTY) (pv 1)))))), ?_⟩
    walk_at "rd"
    refine lc_map walk_jen ((baseL cs).map V.int) ?_ ?_ (fun _ _ => trivial) ?_ ?_
    · simp [txt, base_len]
    · show (txt cs).cps.size ≤ 1000
      have : (txt cs).cps.size = cs.length := by simp [txt]
      omega
    · rintro i x H2 H3 Qc R hi S ⟨t, u, v, rfl, nT, rfl, e1, e2⟩ qc
      cases e1
      have h1 : i < cs.length := by simpa [txt] using hi
      have g2 : v = .str (one cs[i]) := by
        have z : ((txt cs).cps[i]?).map (fun c => V.str ⟨#[c]⟩) = some (.str (one cs[i])) := by simp [txt, h1, one]
        exact Option.some.inj (e2.symm.trans z)
      subst g2
      have eb : ((baseL cs).map V.int)[i]? = some (.int (if cs.getD i 0 = 46 then -1 else (i : Int))) := by
        unfold baseL
        rw [List.map_map, List.getElem?_map, List.getElem?_range h1]
        rfl
      have ec : cs.getD i 0 = cs[i] := by rw [List.getD_eq_getElem?_getD, List.getElem?_eq_getElem h1]; rfl
      rw [ec] at eb
      walk_at "rd"
      refine ⟨rfl, ?_⟩
      walk_at "rd"
      refine ite2 (fun z => ?_) (fun z => ?_)
      · have z1 : cs[i] = 46 := sgn_inj (V.str.inj (of_decide_eq_true z))
        rw [if_pos z1] at eb
        walk_at "rd"
        exact qc _ _ (same_new (Same.refl _) nT) eb
      · have z1 : cs[i] ≠ 46 := fun k => z (by rw [k]; rfl)
        rw [if_neg z1] at eb
        walk_at "rd"
        exact qc _ _ (same_new (Same.refl _) nT) eb
    · intro H2 D S nD hD
      exact q _ D S nD hD
def sp_fits (_K : PySem.W.Frag) : Sp := fun vs H Q _ => ∃ s v : Nat, vs = [.str (one s), .str (one v)] ∧ Q (.bl (fitC s v)) H
set_option maxHeartbeats 4000000 in
theorem ok_fits (T : Top K mg) {f : Addr} {fd : FuncData} (D : Def K mg "_fits" s_fits ["sign", "seen"] f fd) : FnOk P w K mg base CX0 1 f fd ["sign", "seen"] (sp_fits K) := by
  refine D.F.ok sc_fits (fun vs H Q E h => ?_) (fun cdv A outer s H vs Q E hr h => ?_)
  · obtain ⟨a, b, rfl, _⟩ := h
    rfl
  · obtain ⟨a, b, rfl, q⟩ := h
    refine ⟨_, (pss_cons (ps_if (pt_cmpR op_eq (pv 0) pe_str (nomark _)) (pss_one (ps_ret pe_bl)) pss_nil)
    (pss_cons (ps_if (pt_cmpR op_eq (pv 0) pe_str (nomark _)) (pss_one (ps_ret (pe_cmpR op_ne (pv 1) pe_str (nomark _)))) pss_nil)
    (pss_one (ps_ret (pe_cmpR op_eq (pv 0) (pv 1) (nomark _)))))), ?_⟩
    walk_at "rd"
    unfold fitC at q
    refine ite2 (fun z => ?_) (fun z => ?_)
    · have z1 : a = 45 := sgn_inj (V.str.inj (of_decide_eq_true z))
      walk_at "rd"
      rw [if_pos z1] at q
      exact q
    · have z1 : a ≠ 45 := fun k => z (by rw [k]; rfl)
      rw [if_neg z1] at q
      walk_at "rd"
      refine ite2 (fun y => ?_) (fun y => ?_)
      · have y1 : a = 42 := sgn_inj (V.str.inj (of_decide_eq_true y))
        walk_at "rd"
        rw [if_pos y1] at q
        have e : decide (V.str (one b) = V.str (Str.ofString ".")) = decide (b = 46) := decide_eq_decide.mpr ⟨fun k => sgn_inj (V.str.inj k), fun k => by rw [k]; rfl⟩
        rw [e]
        exact q
      · have y1 : a ≠ 42 := fun k => y (by rw [k]; rfl)
        walk_at "rd"
        rw [if_neg y1] at q
        have e : decide (V.str (one a) = V.str (one b)) = decide (a = b) := decide_eq_decide.mpr ⟨fun k => sgn_inj (V.str.inj k), fun k => by rw [k]⟩
        rw [e]
        exact q
def spmatches (_K : PySem.W.Frag) : Sp := fun vs H Q _ => ∃ gs cs : List Nat, vs = [.str (txt gs), .str (txt cs)] ∧ cs.length ≤ 12 ∧ ∀ H', Same H H' → Q (.bl (fitsL gs cs)) H'
set_option maxHeartbeats 4000000 in
theorem okmatches (T : Top K mg) {f : Addr} {fd : FuncData} (D : Def K mg "matches" smatches ["guard", "view"] f fd) : FnOk P w K mg base CX0 2 f fd ["guard", "view"] (spmatches K) := by
  obtain ⟨f_fits, fd_fits, D_fits⟩ := T.d__fits
  have G_fits : FnOk P w K mg base CX0 1 f_fits fd_fits ["sign", "seen"] (sp_fits K) := ok_fits T D_fits
  refine D.F.ok scmatches (fun vs H Q E h => ?_) (fun cdv A outer s H vs Q E hr h => ?_)
  · obtain ⟨gs, cs, rfl, _⟩ := h
    rfl
  · obtain ⟨gs, cs, rfl, hl, q⟩ := h
    refine ⟨_, (pss_one (ps_ret (pe_callB (r := rAll K) (cr_all rfl) (by rfl) T.b_all (by decide +kernel) (pa_cons (pe_lc (own := [("sign", 2), ("seen", 3)]) (g := gTup K 2 (gCons (gName 2) (gCons (gName 3) gNil))) (tt := tYes) rfl scmatches.nd (Rv.pi_zpS (by rfl) T.b_zip (pa_cons (pv 0) (pa_cons (pv 1) pa_nil)))
      (blkOk_by (own := [("sign", 2), ("seen", 3)]) (N := ["guard", "view", "sign", "seen"]) (sc := defScope smatches) (by decide +kernel)) (fun _ _ _ _ _ => (pg_tup rfl (pgs_cons (pg_name (i := 2) scmatches.nd rfl (.inl rfl)) (pgs_cons (pg_name (i := 3) scmatches.nd rfl (.inl rfl)) pgs_nil)))) (fun _ _ _ _ _ => pts_nil)
      (fun _ _ _ _ _ => (pe_call G_fits hr (by rfl) D_fits.g D_fits.F.kp D_fits.b .nil pass0 (pa_cons (pv 2) (pa_cons (pv 3) pa_nil))))) pa_nil)))), ?_⟩
    walk_at "rd"
    refine lc_map walk_jzp (((gs.zip cs).map fun p => fitC p.1 p.2).map V.bl) ?_ ?_ (fun _ _ => trivial) ?_ ?_
    · rw [List.length_map, List.length_map, List.length_zip]
      simp [txt]
    · show min (txt gs).cps.size (txt cs).cps.size ≤ 1000
      have : (txt cs).cps.size = cs.length := by simp [txt]
      omega
    · rintro i x H2 H3 Qc R hi S ⟨t, u, v, rfl, nT, rfl, e1, e2⟩ qc
      have hi' : i < min gs.length cs.length := by simpa [txt] using hi
      have h1 : i < gs.length := by omega
      have h2 : i < cs.length := by omega
      have g1 : u = .str (one gs[i]) := by
        have z : sgn (txt gs) i = some (.str (one gs[i])) := by simp [sgn, txt, h1, one]
        exact Option.some.inj (e1.symm.trans z)
      have g2 : v = .str (one cs[i]) := by
        have z : sgn (txt cs) i = some (.str (one cs[i])) := by simp [sgn, txt, h2, one]
        exact Option.some.inj (e2.symm.trans z)
      subst g1 g2
      walk_at "rd"
      refine ⟨rfl, ?_⟩
      walk_at "rd"
      refine ⟨_, _, rfl, qc _ _ (same_new (Same.refl _) nT) ?_⟩
      rw [List.map_map, List.getElem?_map, List.getElem?_eq_getElem (by rw [List.length_zip]; exact hi'), List.getElem_zip]
      rfl
    · intro H2 D S nD hD
      refine rd_all hD ?_
      exact q _ S
def spfires (_K : PySem.W.Frag) : Sp := fun vs H Q _ => ∃ (a : Addr) (r : Ln) (cs : List Nat), vs = [.ref a, .str (txt cs)] ∧ H a = some (.tup r.vals) ∧ cs.length ≤ 12 ∧ LnOk cs.length r ∧ ∀ H', Same H H' → Q (.bl (worksL r cs)) H'
set_option maxHeartbeats 4000000 in
theorem okfires (T : Top K mg) {f : Addr} {fd : FuncData} (D : Def K mg "fires" sfires ["line", "view"] f fd) : FnOk P w K mg base CX0 3 f fd ["line", "view"] (spfires K) := by
  obtain ⟨fmatches, fdmatches, Dmatches⟩ := T.d_matches
  have Gmatches : FnOk P w K mg base CX0 2 fmatches fdmatches ["guard", "view"] (spmatches K) := okmatches T Dmatches
  refine D.F.ok scfires (fun vs H Q E h => ?_) (fun cdv A outer s H vs Q E hr h => ?_)
  · obtain ⟨a, r, cs, rfl, _⟩ := h
    rfl
  · obtain ⟨a, r, cs, rfl, hT, hl, ok, q⟩ := h
    unfold Ln.vals at hT
    refine ⟨_, (pss_cons (ps_asg (pv 0) (pg_tup rfl (pgs_cons (pg_name (i := 2) scfires.nd rfl (.inl rfl)) (pgs_cons (pg_name (i := 3) scfires.nd rfl (.inl rfl)) (pgs_cons (pg_name (i := 4) scfires.nd rfl (.inl rfl)) (pgs_cons (pg_name (i := 5) scfires.nd rfl (.inl rfl)) pgs_nil))))))
    (pss_one (ps_ret (pe_and (pe_call Gmatches hr (by rfl) Dmatches.g Dmatches.F.kp Dmatches.b .nil pass0 (pa_cons (pv 5) (pa_cons (pv 1) pa_nil))) (pe_one (pe_or (pe_cmpR op_eq (pv 2) pe_str (nomark _)) (pe_one (pe_cmpR op_ne (pe_ix ix_str (pv 1) (pv 4) (fun _ _ => rfl)) pe_str (nomark _))))))))), ?_⟩
    walk_at "rd"
    refine ⟨r.g, cs, rfl, hl, fun H1 S1 => ?_⟩
    walk_at "rd"
    have q1 := q _ S1
    unfold worksL at q1
    refine ite2 (fun z => ?_) (fun z => ?_)
    · rw [z, Bool.true_and] at q1
      walk_at "rd"
      refine ite2 (fun y => ?_) (fun y => ?_)
      · have y1 : r.w = sClear := V.str.inj (of_decide_eq_true y)
        rw [decide_eq_true y1, Bool.true_or] at q1
        exact q1
      · have y1 : r.w ≠ sClear := fun k => y (by rw [k]; rfl)
        rw [decide_eq_false y1, Bool.false_or] at q1
        rcases ok.word with ⟨e, _⟩ | ⟨_, o0, o1, _⟩
        · exact absurd e y1
        · obtain ⟨v, e1, e2, _⟩ := atI_int o0 o1
          walk_at "rd"
          refine rd_ixS (by rw [txt_len]; exact Nat.le_of_lt (small1000 (by omega))) e1 ?_
          walk_at "rd"
          have ev : fullAt cs r.o = !decide (V.str ⟨#[v]⟩ = V.str (Str.ofString ".")) := by
            unfold fullAt
            rw [List.getD_eq_getElem?_getD, e2]
            exact congrArg not (decide_eq_decide.mpr sxx.symm)
          rw [← ev]
          exact q1
    · rw [Bool.eq_false_iff.mpr z, Bool.false_and] at q1
      exact q1
def spsources (_K : PySem.W.Frag) : Sp := fun vs H Q _ => ∃ (a : Addr) (r : Ln) (cs : List Nat), vs = [.ref a, .str (txt cs)] ∧ H a = some (.tup r.vals) ∧ cs.length ≤ 12 ∧ LnOk cs.length r ∧ ∀ H' D, Same H H' → H D = none → H' D = some (.tup ((origL r cs).map V.int)) → Q (.ref D) H'
set_option maxHeartbeats 4000000 in
theorem oksources (T : Top K mg) {f : Addr} {fd : FuncData} (D : Def K mg "sources" ssources ["line", "view"] f fd) : FnOk P w K mg base CX0 4 f fd ["line", "view"] (spsources K) := by
  obtain ⟨fkept_blocks, fdkept_blocks, Dkept_blocks⟩ := T.d_kept_blocks
  have Gkept_blocks : FnOk P w K mg base CX0 1 fkept_blocks fdkept_blocks ["view"] (spkept_blocks K) := okkept_blocks T Dkept_blocks
  obtain ⟨ffires, fdfires, Dfires⟩ := T.d_fires
  have Gfires : FnOk P w K mg base CX0 3 ffires fdfires ["line", "view"] (spfires K) := okfires T Dfires
  refine D.F.ok scsources (fun vs H Q E h => ?_) (fun cdv A outer s H vs Q E hr h => ?_)
  · obtain ⟨a, r, cs, rfl, _⟩ := h
    rfl
  · obtain ⟨a, r, cs, rfl, hT, hl, ok, q⟩ := h
    have hL : H a = some (.tup [.str r.w, .int r.t, .int r.o, .str (txt r.g)]) := hT
    refine ⟨_, (pss_cons (ps_asg (pv 0) (pg_tup rfl (pgs_cons (pg_name (i := 2) scsources.nd rfl (.inl rfl)) (pgs_cons (pg_name (i := 3) scsources.nd rfl (.inl rfl)) (pgs_cons (pg_name (i := 4) scsources.nd rfl (.inl rfl)) (pgs_cons (pg_name (i := 5) scsources.nd rfl (.inl rfl)) pgs_nil))))))
    (pss_cons (ps_set (i := 6) scsources.nd rfl (.inl rfl) (pe_call Gkept_blocks (hr.mono (by decide)) (by rfl) Dkept_blocks.g Dkept_blocks.F.kp Dkept_blocks.b .nil pass0 (pa_cons (pv 1) pa_nil)))
    (C8.pss_cut (ps_if (pt_val (pe_call Gfires hr (by rfl) Dfires.g Dfires.F.kp Dfires.b .nil pass0 (pa_cons (pv 0) (pa_cons (pv 1) pa_nil)))) (pss_cons (ps_asg (pv 4) (pg_sub (pv 6) (pv 3) set_list))
    (pss_one (ps_if (pt_cmpR op_eq (pv 2) pe_str (nomark _)) (pss_one (ps_asg (Rv.pe_k (by rfl) T.k_EMPTY) (pg_sub (pv 6) (pv 4) set_list))) pss_nil))) pss_nil)
    (pss_one (ps_ret (pe_callTy (r := rTupQ K) call_tupQ (by rfl) T.b_tuple (by decide +kernel) (pa_cons (pv 6) pa_nil))))))), ?_⟩
    walk_at "rd"
    refine ⟨cs, rfl, hl, fun H1 D1 S1 nD hD => ?_⟩
    walk_at "rd"
    refine ⟨fun σ' H' => ∃ y2 y3 y4 y5, σ' = [some (.ref a), some (.str (txt cs)), y2, y3, y4, y5, some (.ref D1)] ∧ Same H H' ∧ H' D1 = some (.lst ((origL r cs).map V.int)), ?_, ?_⟩
    · walk_at "rd"
      refine ⟨a, r, cs, rfl, S1 _ _ hT, hl, ok, fun H2 S2 => ?_⟩
      have hD2 := S2 _ _ hD
      have S12 := S1.trans S2
      walk_at "rd"
      refine ite2 (fun z => ?_) (fun z => ?_)
      · have et : ixN ((baseL cs).map V.int).length r.t = some r.t.toNat := ixN_of (by have := ok.t0; omega) (by rw [List.length_map, base_len]; have := ok.t0; have := ok.t1; omega)
        walk_at "rd"
        have eo : origL r cs = if r.w = sMove then ((baseL cs).set r.t.toNat r.o).set r.o.toNat (-1) else (baseL cs).set r.t.toNat r.o := if_pos z
        have e1 : ((baseL cs).map V.int).set r.t.toNat (.int r.o) = ((baseL cs).set r.t.toNat r.o).map V.int := (List.map_set ..).symm
        refine ite2 (fun y => ?_) (fun y => ?_)
        · have y1 : r.w = sMove := V.str.inj (of_decide_eq_true y)
          rw [if_pos y1] at eo
          have y2 : 0 ≤ r.o ∧ r.o < cs.length := by
            rcases ok.word with ⟨e, _⟩ | ⟨_, o0, o1, _⟩
            · rw [y1] at e
              exact absurd e (by decide)
            · exact ⟨o0, o1⟩
          have eq : ixN (((baseL cs).map V.int).set r.t.toNat (.int r.o)).length r.o = some r.o.toNat := ixN_of (by omega) (by rw [List.length_set, List.length_map, base_len]; omega)
          walk_at "rd"
          refine ⟨_, _, _, _, rfl, same_mut (same_mut S12 nD) nD, ?_⟩
          rw [upd_same, eo, e1]
          exact congrArg (fun z => some (HO.lst z)) (List.map_set ..).symm
        · have y1 : r.w ≠ sMove := fun k => y (by rw [k]; rfl)
          rw [if_neg y1] at eo
          walk_at "rd"
          refine ⟨_, _, _, _, rfl, same_mut S12 nD, ?_⟩
          rw [upd_same, eo, e1]
      · have eo : origL r cs = baseL cs := if_neg z
        walk_at "rd"
        refine ⟨_, _, _, _, rfl, S12, ?_⟩
        rw [eo]
        exact hD2
    · rintro σ' H' ⟨y2, y3, y4, y5, rfl, S, hD'⟩
      walk_at "rd"
      intro l nl
      exact q _ _ (same_new S nl) (by
        cases e : H l with
        | none => rfl
        | some o =>
          rw [S _ _ e] at nl
          cases nl) upd_same
def splook_after (_K : PySem.W.Frag) : Sp := fun vs H Q _ => ∃ (a : Addr) (r : Ln) (cs : List Nat), vs = [.ref a, .str (txt cs)] ∧ H a = some (.tup r.vals) ∧ cs.length ≤ 12 ∧ LnOk cs.length r ∧ ∀ H', Same H H' → Q (.str (txt ((origL r cs).map fun k => if k = -1 then 46 else cs.getD k.toNat 0))) H'
set_option maxHeartbeats 4000000 in
theorem oklook_after (T : Top K mg) {f : Addr} {fd : FuncData} (D : Def K mg "look_after" slook_after ["line", "view"] f fd) : FnOk P w K mg base CX0 5 f fd ["line", "view"] (splook_after K) := by
  obtain ⟨fsources, fdsources, Dsources⟩ := T.d_sources
  have Gsources : FnOk P w K mg base CX0 4 fsources fdsources ["line", "view"] (spsources K) := oksources T Dsources
  refine D.F.ok sclook_after (fun vs H Q E h => ?_) (fun cdv A outer s H vs Q E hr h => ?_)
  · obtain ⟨a, r, cs, rfl, _⟩ := h
    rfl
  · obtain ⟨a, r, cs, rfl, hT, hl, ok, q⟩ := h
    refine ⟨_, (pss_one (ps_ret (pe_join pe_str (pe_lc (own := [("block", 2)]) (g := gName 2) (tt := tYes) rfl sclook_after.nd (pi_tup (pe_call Gsources hr (by rfl) Dsources.g Dsources.F.kp Dsources.b .nil pass0 (pa_cons (pv 0) (pa_cons (pv 1) pa_nil))))
      (blkOk_by (own := [("block", 2)]) (N := ["line", "view", "block"]) (sc := defScope slook_after) (by decide +kernel)) (fun _ _ _ _ _ => (pg_name (i := 2) sclook_after.nd rfl (.inl rfl))) (fun _ _ _ _ _ => pts_nil)
      (fun _ _ _ _ _ => (pe_ifExp (pt_cmpR op_eq (pv 2) (Rv.pe_k (by rfl) T.k_EMPTY) (nomark _)) pe_str (pe_ix ix_str (pv 1) (pv 2) (fun _ _ => rfl)))))))), ?_⟩
    walk_at "rd"
    refine ⟨a, r, cs, rfl, hT, hl, ok, fun H2 D2 S2 nD2 hD2 => ?_⟩
    walk_at "rd"
    have hl2 : (origL r cs).length = cs.length := orig_len _ _
    have hz := txt_small (cs := cs) (by omega)
    refine lc_map (walk_tup (xs := (origL r cs).map V.int)) (((origL r cs).map fun k => if k = -1 then 46 else cs.getD k.toNat 0).map fun c => V.str (one c)) ?_ ?_ (fun H' S => SqT.of (S _ _ hD2)) ?_ ?_
    · simp
    · rw [List.length_map, hl2]
      omega
    · rintro i x H3 H4 Qc R hi S ⟨rfl, ex⟩ qc
      have hi2 : i < (origL r cs).length := by rw [List.length_map] at hi; exact hi
      rw [List.getElem?_map, List.getElem?_eq_getElem hi2] at ex
      cases ex
      have hk := orig_held ok _ (List.getElem_mem hi2)
      have eg : (((origL r cs).map fun k => if k = -1 then 46 else cs.getD k.toNat 0).map fun c => V.str (one c))[i]? = some (.str (one (if (origL r cs)[i] = -1 then 46 else cs.getD (origL r cs)[i].toNat 0))) := by
        rw [List.getElem?_map, List.getElem?_map, List.getElem?_eq_getElem hi2]
        rfl
      generalize (origL r cs)[i] = k at *
      walk_at "rd"
      refine ⟨rfl, ?_⟩
      walk_at "rd"
      refine ite2 (fun z => ?_) (fun z => ?_)
      · have z1 : k = -1 := V.int.inj (of_decide_eq_true z)
        walk_at "rd"
        rw [if_pos z1] at eg
        exact qc _ _ (Same.refl _) eg
      · have z1 : k ≠ -1 := fun e => z (by rw [e]; rfl)
        have hk2 : 0 ≤ k ∧ k < cs.length := by omega
        have ea := atI_cods hk2.1 hk2.2
        walk_at "rd"
        rw [if_neg z1] at eg
        exact qc _ _ (Same.refl _) eg
    · intro H3 D S nD hD
      refine ⟨_, D, ((origL r cs).map fun k => if k = -1 then 46 else cs.getD k.toNat 0).map one, rfl, rfl, .inl (SqL.of (by rw [hD, List.map_map, List.map_map, List.map_map]; rfl)), ?_, ?_⟩
      · rw [ones_sum, List.length_map, List.length_map, hl2]
        show cs.length + cs.length * 0 ≤ _
        omega
      · rw [join_sg]
        exact q _ (S2.trans S)
def spflow (_K : PySem.W.Frag) : Sp := fun vs H Q _ => ∃ (l : Addr) (ps : List Addr) (rs : List Ln) (cs : List Nat), vs = [.ref l, .str (txt cs)] ∧ H l = some (.lst (ps.map V.ref)) ∧ TupsAt H ps (rows rs) ∧ cs.length ≤ 12 ∧ (∀ r ∈ rs, LnOk cs.length r) ∧
  ∀ H' D, Same H H' → H D = none → H' D = some (.tup ((flowP (baseL cs, cs) rs).1.map V.int)) → Q (.ref D) H'
set_option maxHeartbeats 4000000 in
theorem okflow (T : Top K mg) {f : Addr} {fd : FuncData} (D : Def K mg "flow" sflow ["script", "view"] f fd) : FnOk P w K mg base CX0 6 f fd ["script", "view"] (spflow K) := by
  obtain ⟨fkept_blocks, fdkept_blocks, Dkept_blocks⟩ := T.d_kept_blocks
  have Gkept_blocks : FnOk P w K mg base CX0 1 fkept_blocks fdkept_blocks ["view"] (spkept_blocks K) := okkept_blocks T Dkept_blocks
  obtain ⟨flook_after, fdlook_after, Dlook_after⟩ := T.d_look_after
  have Glook_after : FnOk P w K mg base CX0 5 flook_after fdlook_after ["line", "view"] (splook_after K) := oklook_after T Dlook_after
  obtain ⟨fsources, fdsources, Dsources⟩ := T.d_sources
  have Gsources : FnOk P w K mg base CX0 4 fsources fdsources ["line", "view"] (spsources K) := oksources T Dsources
  refine D.F.ok scflow (fun vs H Q E h => ?_) (fun cdv A outer s H vs Q E hr h => ?_)
  · obtain ⟨l, ps, rs, cs, rfl, _⟩ := h
    rfl
  · obtain ⟨l, ps, rs, cs, rfl, hL, hR, l12, ok, q⟩ := h
    have pl : ps.length = rs.length := hR.1.trans (rows_len rs)
    refine ⟨_, (pss_cons (ps_set (i := 2) scflow.nd rfl (.inr rfl) (pe_call Gkept_blocks (hr.mono (by decide)) (by rfl) Dkept_blocks.g Dkept_blocks.F.kp Dkept_blocks.b .nil pass0 (pa_cons (pv 1) pa_nil)))
    (pss_cons (ps_for PassesOwn.never rfl (pi_list (pv 0)) (pg_name (i := 3) scflow.nd rfl (.inl rfl)) (pss_cons (ps_set (i := 2) scflow.nd rfl (.inr rfl) (pe_lc (own := [("block", 4)]) (g := gName 4) (tt := tYes) rfl scflow.nd (pi_tup (pe_call Gsources (hr.mono (by decide)) (by rfl) Dsources.g Dsources.F.kp Dsources.b .nil pass0 (pa_cons (pv 3) (pa_cons (pv 1) pa_nil))))
      (blkOk_by (own := [("block", 4)]) (N := ["script", "view", "origins", "line", "block"]) (sc := defScope sflow) (by decide +kernel)) (fun _ _ _ _ _ => (pg_name (i := 4) scflow.nd rfl (.inl rfl))) (fun _ _ _ _ _ => pts_nil)
      (fun _ _ _ _ _ => (pe_ifExp (pt_cmpR op_eq (pv 4) (Rv.pe_k (by rfl) T.k_EMPTY) (nomark _)) (Rv.pe_k (by rfl) T.k_EMPTY) (pe_ix (r := rIxL K) ix_list (pv 2) (pv 4) (fun _ _ => rfl))))))
    (pss_one (ps_set (i := 1) scflow.nd rfl (.inl rfl) (pe_call Glook_after hr (by rfl) Dlook_after.g Dlook_after.F.kp Dlook_after.b .nil pass0 (pa_cons (pv 3) (pa_cons (pv 1) pa_nil)))))))
    (pss_one (ps_ret (pe_callTy (r := rTupQ K) call_tupQ (by rfl) T.b_tuple (by decide +kernel) (pa_cons (pv 2) pa_nil)))))), ?_⟩
    walk_at "re"
    refine ⟨cs, rfl, l12, fun H1 D1 S1 nD1 hD1 => ?_⟩
    have hL1 := S1 _ _ hL
    walk_at "re"
    refine fr_it (walk_list (xs := ps.map V.ref)) (fun i σ H' => ∃ (y3 : Option V) (o : Addr), σ = [some (.ref l), some (.str (txt (flowP (baseL cs, cs) (rs.take i)).2)), some (.ref o), y3, none] ∧ Same H H' ∧ H' o = some (.lst ((flowP (baseL cs, cs) (rs.take i)).1.map V.int))) ⟨none, D1, rfl, S1, hD1⟩ (fun i σ H' _ p => ?_) ?_ ?_
    · obtain ⟨_, _, _, S, _⟩ := p
      exact SqL.of (S _ _ hL)
    · rintro i x σ H0 H3 hi ⟨y3, o, rfl, S, ho⟩ ⟨rfl, ex⟩
      have hi2 : i < rs.length := by rw [List.length_map] at hi; omega
      obtain ⟨p, ep, hp⟩ := (hR.same S).get (i := i) (by rw [rows_len]; exact hi2)
      rw [List.getElem?_map, ep] at ex
      cases ex
      have er : (rows rs)[i]'(by rw [rows_len]; exact hi2) = rs[i].vals := by simp [rows]
      rw [er] at hp
      obtain ⟨k1, k2⟩ := flowP_ok (cs := cs) _ (rs.take i) rfl
      have oki := ok _ (List.getElem_mem hi2)
      have etk : flowP (baseL cs, cs) (rs.take (i + 1)) = (carL (origL rs[i] (flowP (baseL cs, cs) (rs.take i)).2) (flowP (baseL cs, cs) (rs.take i)).1, viewL rs[i] (flowP (baseL cs, cs) (rs.take i)).2) := by rw [take_next hi2, flowP_add]
      generalize rs[i] = r at *
      generalize (flowP (baseL cs, cs) (rs.take i)).1 = hh at *
      generalize (flowP (baseL cs, cs) (rs.take i)).2 = v at *
      have okv : LnOk v.length r := by rw [k2]; exact oki
      walk_at "re"
      refine ⟨p, r, v, rfl, hp, by omega, okv, fun H4 D4 S4 nD4 hD4 => ?_⟩
      have ho4 := S4 _ _ ho
      walk_at "re"
      refine lc_map (walk_tup (xs := (origL r v).map V.int)) ((carL (origL r v) hh).map V.int) ?_ ?_ (fun H' S => SqT.of (S _ _ hD4)) ?_ ?_
      · simp [carL]
      · rw [List.length_map, orig_len]
        omega
      · rintro j x H0 H5 Qc R hj S5 ⟨rfl, ex⟩ qc
        have hj2 : j < (origL r v).length := by rw [List.length_map] at hj; exact hj
        have eg := car_get (es := hh) hj2
        rw [List.getElem?_map, List.getElem?_eq_getElem hj2] at ex
        cases ex
        have hk := orig_held okv _ (List.getElem_mem hj2)
        have ho5 := S5 _ _ ho4
        generalize (origL r v)[j] = k at *
        walk_at "re"
        refine ⟨rfl, ?_⟩
        walk_at "re"
        refine ite2 (fun z => ?_) (fun z => ?_)
        · have z1 : k = -1 := V.int.inj (of_decide_eq_true z)
          walk_at "re"
          rw [if_pos z1] at eg
          exact qc _ _ (Same.refl _) eg
        · have z1 : k ≠ -1 := fun e => z (by rw [e]; rfl)
          have hk2 : 0 ≤ k ∧ k < hh.length := by omega
          have ea := atI_ints hk2.1 hk2.2
          walk_at "re"
          rw [if_neg z1] at eg
          exact qc _ _ (Same.refl _) eg
      · intro H5 D5 S5 nD5 hD5
        have S15 := (S.trans S4).trans S5
        have hp5 := S5 _ _ (S4 _ _ hp)
        walk_at "re"
        refine ⟨p, r, v, rfl, hp5, by omega, okv, fun H6 S6 => ?_⟩
        walk_at "re"
        refine ⟨_, D5, by rw [etk]; rfl, S15.trans S6, by rw [etk]; exact S6 _ _ hD5⟩
    · rintro σ H3 ⟨y3, o, rfl, S, ho⟩
      rw [List.length_map, pl, List.take_of_length_le (Nat.le_refl _)] at ho
      walk_at "re"
      intro D nD
      exact q _ D (same_new S nD) (S.free nD) upd_same
def sp_law_is_whole (_K : PySem.W.Frag) : Sp := fun vs H Q _ => ∃ i : Int, vs = [.int i] ∧ Q (.bl true) H
set_option maxHeartbeats 4000000 in
theorem ok_law_is_whole (T : Top K mg) {f : Addr} {fd : FuncData} (D : Def K mg "_law_is_whole" s_law_is_whole ["told"] f fd) : FnOk P w K mg base CX0 1 f fd ["told"] (sp_law_is_whole K) := by
  refine D.F.ok sc_law_is_whole (fun vs H Q E h => ?_) (fun cdv A outer s H vs Q E hr h => ?_)
  · obtain ⟨i, rfl, _⟩ := h
    rfl
  · obtain ⟨i, rfl, q⟩ := h
    refine ⟨_, (pss_one (ps_ret (pe_and (pe_callB (r := rIsi K) call_isi (by rfl) T.b_isinstance (by decide +kernel) (pa_cons (pv 0) (pa_cons (pe_bltn (v := .ty "int") (by rfl) T.b_int (by decide +kernel) rfl) pa_nil))) (pe_one (pe_not (pe_callB (r := rIsi K) call_isi (by rfl) T.b_isinstance (by decide +kernel) (pa_cons (pv 0) (pa_cons (pe_bltn (v := .ty "bool") (by rfl) T.b_bool (by decide +kernel) rfl) pa_nil)))))))), ?_⟩
    walk_at "rd"
    exact q
def sp_law_same (_K : PySem.W.Frag) : Sp := fun vs H Q _ => ∃ (a b : Addr) (xs : List Int), vs = [.ref a, .ref b] ∧ H a = some (.tup (xs.map V.int)) ∧ H b = some (.tup (xs.map V.int)) ∧ xs.length ≤ 1000 ∧ Q (.bl true) H
set_option maxHeartbeats 4000000 in
theorem ok_law_same (T : Top K mg) {f : Addr} {fd : FuncData} (D : Def K mg "_law_same" s_law_same ["told", "due"] f fd) : FnOk P w K mg base CX0 2 f fd ["told", "due"] (sp_law_same K) := by
  obtain ⟨f_law_is_whole, fd_law_is_whole, D_law_is_whole⟩ := T.d__law_is_whole
  have G_law_is_whole : FnOk P w K mg base CX0 1 f_law_is_whole fd_law_is_whole ["told"] (sp_law_is_whole K) := ok_law_is_whole T D_law_is_whole
  refine D.F.ok sc_law_same (fun vs H Q E h => ?_) (fun cdv A outer s H vs Q E hr h => ?_)
  · obtain ⟨a, b, xs, rfl, _⟩ := h
    rfl
  · obtain ⟨a, b, xs, rfl, hA, hB, hl, q⟩ := h
    have hn : V.int ((xs.map V.int).length : Int) = V.int ((xs.map V.int).length : Int) := rfl
    have hrg : -100000 ≤ (((xs.map V.int).length : Nat) : Int) ∧ (((xs.map V.int).length : Nat) : Int) ≤ 100000 := by rw [List.length_map]; omega
    refine ⟨_, (pss_cons (ps_if (PW.pt (pw_or (pt_not (pt_val (pe_callB (r := rIsi K) call_isi (by rfl) T.b_isinstance (by decide +kernel) (pa_cons (pv 0) (pa_cons (pe_bltn (v := .ty "tuple") (by rfl) T.b_tuple (by decide +kernel) rfl) pa_nil))))) (pw_or1 (pt_cmpR op_ne (pe_callB (r := rLenQ K) call_lenQ (by rfl) T.b_len PySem.boot_len (pa_cons (pv 0) pa_nil)) (pe_callB (r := rLenQ K) call_lenQ (by rfl) T.b_len PySem.boot_len (pa_cons (pv 1) pa_nil)) (nomark _))))) (pss_one (ps_ret pe_bl)) pss_nil)
    (pss_cons (ps_for PassesOwn.never rfl (pi_range1 (by rfl) T.b_range (pa_cons (pe_callB (r := rLenQ K) call_lenQ (by rfl) T.b_len PySem.boot_len (pa_cons (pv 1) pa_nil)) pa_nil)) (pg_name (i := 2) sc_law_same.nd rfl (.inl rfl)) (pss_one (ps_if (PW.pt (pw_or (pt_not (pt_val (pe_call G_law_is_whole hr (by rfl) D_law_is_whole.g D_law_is_whole.F.kp D_law_is_whole.b .nil pass0 (pa_cons (pe_ix (r := rIxT K) ix_tup (pv 0) (pv 2) (fun _ _ => rfl)) pa_nil)))) (pw_or1 (pt_cmpR op_ne (pe_ix (r := rIxT K) ix_tup (pv 0) (pv 2) (fun _ _ => rfl)) (pe_ix (r := rIxT K) ix_tup (pv 1) (pv 2) (fun _ _ => rfl)) (nomark _))))) (pss_one (ps_ret pe_bl)) pss_nil)))
    (pss_one (ps_ret pe_bl)))), ?_⟩
    walk_at "rd"
    refine fr_rng0 (fun i σ H' => ∃ y, σ = [some (.ref a), some (.ref b), y] ∧ H' = H) ⟨none, rfl, rfl⟩ ?_ ?_
    · rintro i σ H1 hi ⟨y, rfl, rfl⟩
      have hi2 : i < xs.length := by
        have q : i < (xs.map V.int).length := hi
        rw [List.length_map] at q
        exact q
      have ea : atI (xs.map V.int) (i : Int) = some (.int xs[i]) := by
        rw [atI_get (by rw [List.length_map]; exact hi2), List.getElem_map]
      have hv : V.int xs[i] = V.int xs[i] := rfl
      walk_at "rd"
      refine ⟨_, rfl, ?_⟩
      walk_at "rd"
      exact ⟨_, rfl, rfl⟩
    · rintro σ H1 ⟨y, rfl, rfl⟩
      walk_at "rd"
      exact q
def sp_law_path (_K : PySem.W.Frag) : Sp := fun vs H Q _ => ∃ (l a : Addr) (ps : List Addr) (rs : List Ln) (es : List Int), vs = [.ref l, .ref a] ∧ H l = some (.lst (ps.map V.ref)) ∧ TupsAt H ps (rows rs) ∧ H a = some (.tup (es.map V.int)) ∧ Img es ∧ rs.length ≤ 60 ∧ (∀ r ∈ rs, LnOk es.length r) ∧
  ∀ H' D qs, Same H H' → H D = none → H' D = some (.lst (qs.map V.ref)) → TupsAt H' qs (imgs (runP ([es], es) rs).1) → Q (.ref D) H'
set_option maxHeartbeats 4000000 in
theorem ok_law_path (T : Top K mg) {f : Addr} {fd : FuncData} (D : Def K mg "_law_path" s_law_path ["rows", "image"] f fd) : FnOk P w K mg base CX0 4 f fd ["rows", "image"] (sp_law_path K) := by
  obtain ⟨f_law_carried, fd_law_carried, D_law_carried⟩ := T.d__law_carried
  have G_law_carried : FnOk P w K mg base CX0 1 f_law_carried fd_law_carried ["held", "entries"] (sp_law_carried K) := ok_law_carried T D_law_carried
  obtain ⟨f_law_origins, fd_law_origins, D_law_origins⟩ := T.d__law_origins
  have G_law_origins : FnOk P w K mg base CX0 3 f_law_origins fd_law_origins ["row", "view"] (sp_law_origins K) := ok_law_origins T D_law_origins
  obtain ⟨f_law_view, fd_law_view, D_law_view⟩ := T.d__law_view
  have G_law_view : FnOk P w K mg base CX0 1 f_law_view fd_law_view ["image"] (sp_law_view K) := ok_law_view T D_law_view
  refine D.F.ok sc_law_path (fun vs H Q E h => ?_) (fun cdv A outer s H vs Q E hr h => ?_)
  · obtain ⟨l, a, ps, rs, es, rfl, _⟩ := h
    rfl
  · obtain ⟨l, a, ps, rs, es, rfl, hL, hR, hE, I, l60, ok, q⟩ := h
    have pl : ps.length = rs.length := hR.1.trans (rows_len rs)
    refine ⟨_, (pss_cons (ps_set (i := 2) sc_law_path.nd rfl (.inl rfl) (pe_lst (pa_cons (pv 1) pa_nil)))
    (pss_cons (ps_for PassesOwn.never rfl (pi_list (pv 0)) (pg_name (i := 3) sc_law_path.nd rfl (.inl rfl)) (pss_one (ps_expr (pe_bm PySem.F.plainAttrs_list PySem.F.slot_list_append PySem.F.type_list_append mt_append (pv 2) (pa_cons (pe_call G_law_carried (hr.mono (by decide)) (by rfl) D_law_carried.g D_law_carried.F.kp D_law_carried.b .nil pass0 (pa_cons (pe_call G_law_origins hr (by rfl) D_law_origins.g D_law_origins.F.kp D_law_origins.b .nil pass0 (pa_cons (pv 3) (pa_cons (pe_call G_law_view (hr.mono (by decide)) (by rfl) D_law_view.g D_law_view.F.kp D_law_view.b .nil pass0 (pa_cons (pe_ix (r := rIxL K) ix_list (pv 2) (pe_un un_neg pe_int) (fun _ _ => rfl)) pa_nil)) pa_nil))) (pa_cons (pe_ix (r := rIxL K) ix_list (pv 2) (pe_un un_neg pe_int) (fun _ _ => rfl)) pa_nil))) pa_nil)))))
    (pss_one (ps_ret (pv 2))))), ?_⟩
    walk_at "re"
    refine ⟨len1000 (by simp), fun f nf => ?_⟩
    have S2 : Same H (upd H f (.lst [.ref a])) := same_new (Same.refl _) nf
    have hL2 := S2 _ _ hL
    walk_at "re"
    refine fr_it (walk_list (xs := ps.map V.ref)) (fun i σ H' => ∃ (y3 : Option V) (qs : List Addr), σ = [some (.ref l), some (.ref a), some (.ref f), y3] ∧ Same H H' ∧ H' f = some (.lst (qs.map V.ref)) ∧ TupsAt H' qs (imgs (runP ([es], es) (rs.take i)).1)) ⟨none, [a], rfl, S2, upd_same, ?_⟩ (fun i σ H' _ p => ?_) ?_ ?_
    · exact TupsAt.nil.app (S2 _ _ hE)
    · obtain ⟨_, _, _, S, _⟩ := p
      exact SqL.of (S _ _ hL)
    · rintro i x σ H0 H3 hi ⟨y3, qs, rfl, S, hf, hq⟩ ⟨rfl, ex⟩
      have hi2 : i < rs.length := by rw [List.length_map] at hi; omega
      obtain ⟨p, ep, hp⟩ := (hR.same S).get (i := i) (by rw [rows_len]; exact hi2)
      rw [List.getElem?_map, ep] at ex
      cases ex
      have er : (rows rs)[i]'(by rw [rows_len]; exact hi2) = rs[i].vals := by simp [rows]
      rw [er] at hp
      obtain ⟨k1, k2, k3, k4⟩ := runP_ok I _ (rs.take i) rfl (take_ok ok)
      obtain ⟨init, z, eqs, hz⟩ := hq.last (imgs_last k3)
      have el : atI (qs.map V.ref) (-1) = some (.ref z) := by
        rw [eqs, List.map_append]
        exact atI_last _ _
      have oki : LnOk (runP ([es], es) (rs.take i)).2.length rs[i] := by rw [k2]; exact ok _ (List.getElem_mem hi2)
      walk_at "re"
      refine ⟨z, (runP ([es], es) (rs.take i)).2, rfl, hz, k1, fun H4 S4 => ?_⟩
      walk_at "re"
      refine ⟨p, rs[i], codes (runP ([es], es) (rs.take i)).2, rfl, S4 _ _ hp, by rw [codes_len, k2]; exact I.2.1, by rw [codes_len]; exact oki, fun H5 F S5 nF hF => ?_⟩
      have S35 := S4.trans S5
      have hf5 := S35 _ _ hf
      walk_at "re"
      refine ⟨F, z, _, (runP ([es], es) (rs.take i)).2, rfl, hF, S35 _ _ hz, by rw [orig_len, codes_len, k2]; have := I.2.1; omega, orig_held2 oki, fun H6 D S6 nD hD => ?_⟩
      have S36 := S35.trans S6
      have hf6 := S36 _ _ hf
      have hlen : (qs.map V.ref).length < 1000 := by
        rw [List.length_map, hq.1, imgs_len, k4, List.length_take]
        omega
      walk_at "re"
      refine ⟨_, qs ++ [D], rfl, same_mut (S.trans S36) nf, by rw [upd_same, List.map_append]; rfl, ?_⟩
      rw [take_next hi2, runP_add]
      have q2 := ((hq.same S36).app hD).mut (o := .lst (qs.map V.ref ++ [.ref D])) hf6
      show TupsAt _ _ (imgs (_ ++ [_]))
      rw [imgs_app]
      exact q2
    · rintro σ H3 ⟨y3, qs, rfl, S, hf, hq⟩
      rw [List.length_map, pl, List.take_of_length_le (Nat.le_refl _)] at hq
      walk_at "re"
      exact q _ f qs S nf hf hq
theorem slTo {K : PySem.W.Frag} {H : Hp} {Q : VK} {p : Addr} {ps : List Addr} {k : Nat} (h : H p = some (.lst (ps.map V.ref))) (hk : k ≤ ps.length) (q : ∀ H' l, Same H H' → H l = none → H' l = some (.lst ((ps.take k).map V.ref)) → Q (.ref l) H') : rSlL K (.ref p) none (some (k : Int)) H Q :=
  rd_slL (SqL.of h) fun l nl => by
    rw [cut_to (by rw [List.length_map]; exact hk), ← List.map_take]
    obtain ⟨H2, e2, S2, h2⟩ := new_gen (.lst ((ps.take k).map V.ref)) nl
    rw [← e2]
    exact q H2 l S2 nl h2
theorem slFrom {K : PySem.W.Frag} {H : Hp} {Q : VK} {p : Addr} {ps : List Addr} {k : Nat} (h : H p = some (.lst (ps.map V.ref))) (hk : k ≤ ps.length) (q : ∀ H' l, Same H H' → H l = none → H' l = some (.lst ((ps.drop k).map V.ref)) → Q (.ref l) H') : rSlL K (.ref p) (some (k : Int)) none H Q :=
  rd_slL (SqL.of h) fun l nl => by
    rw [cut_from (by rw [List.length_map]; exact hk), ← List.map_drop]
    obtain ⟨H2, e2, S2, h2⟩ := new_gen (.lst ((ps.drop k).map V.ref)) nl
    rw [← e2]
    exact q H2 l S2 nl h2
theorem rowsTake {H : Hp} {ps : List Addr} {rs : List Ln} (t : TupsAt H ps (rows rs)) (k : Nat) : TupsAt H (ps.take k) (rows (rs.take k)) := by
  have q := t.take k
  unfold rows at *
  rw [← List.map_take] at q
  exact q
theorem rowsDrop {H : Hp} {ps : List Addr} {rs : List Ln} (t : TupsAt H ps (rows rs)) (k : Nat) : TupsAt H (ps.drop k) (rows (rs.drop k)) := by
  have q := t.drop k
  unfold rows at *
  rw [← List.map_drop] at q
  exact q
theorem drop_ok {n : Nat} {rs : List Ln} {i : Nat} (h : ∀ r ∈ rs, LnOk n r) : ∀ r ∈ rs.drop i, LnOk n r := fun r hr => h r (List.mem_of_mem_drop hr)
def sp_law_joined (_K : PySem.W.Frag) : Sp := fun vs H Q _ => ∃ (l a : Addr) (ps : List Addr) (rs : List Ln) (es : List Int) (k : Nat), vs = [.ref l, .int k, .ref a] ∧ H l = some (.lst (ps.map V.ref)) ∧ TupsAt H ps (rows rs) ∧ H a = some (.tup (es.map V.int)) ∧ Img es ∧ rs.length ≤ 60 ∧ (∀ r ∈ rs, LnOk es.length r) ∧ k ≤ rs.length ∧ ∀ H', Same H H' → Q (.bl true) H'
set_option maxHeartbeats 4000000 in
theorem ok_law_joined (T : Top K mg) {f : Addr} {fd : FuncData} (D : Def K mg "_law_joined" s_law_joined ["rows", "cut", "image"] f fd) : FnOk P w K mg base CX0 7 f fd ["rows", "cut", "image"] (sp_law_joined K) := by
  obtain ⟨fflow, fdflow, Dflow⟩ := T.d_flow
  have Gflow : FnOk P w K mg base CX0 6 fflow fdflow ["script", "view"] (spflow K) := okflow T Dflow
  obtain ⟨f_law_same, fd_law_same, D_law_same⟩ := T.d__law_same
  have G_law_same : FnOk P w K mg base CX0 2 f_law_same fd_law_same ["told", "due"] (sp_law_same K) := ok_law_same T D_law_same
  obtain ⟨f_law_view, fd_law_view, D_law_view⟩ := T.d__law_view
  have G_law_view : FnOk P w K mg base CX0 1 f_law_view fd_law_view ["image"] (sp_law_view K) := ok_law_view T D_law_view
  obtain ⟨f_law_path, fd_law_path, D_law_path⟩ := T.d__law_path
  have G_law_path : FnOk P w K mg base CX0 4 f_law_path fd_law_path ["rows", "image"] (sp_law_path K) := ok_law_path T D_law_path
  obtain ⟨f_law_carried, fd_law_carried, D_law_carried⟩ := T.d__law_carried
  have G_law_carried : FnOk P w K mg base CX0 1 f_law_carried fd_law_carried ["held", "entries"] (sp_law_carried K) := ok_law_carried T D_law_carried
  obtain ⟨f_law_led, fd_law_led, D_law_led⟩ := T.d__law_led
  have G_law_led : FnOk P w K mg base CX0 4 f_law_led fd_law_led ["rows", "view"] (sp_law_led K) := ok_law_led T D_law_led
  refine D.F.ok sc_law_joined (fun vs H Q E h => ?_) (fun cdv A outer s H vs Q E hr h => ?_)
  · obtain ⟨l, a, ps, rs, es, k, rfl, _⟩ := h
    rfl
  · obtain ⟨l, a, ps, rs, es, k, rfl, hL, hR, hE, I, l60, ok, hk, q⟩ := h
    have pl : ps.length = rs.length := hR.1.trans (rows_len rs)
    have hkp : k ≤ ps.length := by omega
    have okA : ∀ r ∈ rs.take k, LnOk es.length r := take_ok ok
    have okB : ∀ r ∈ rs.drop k, LnOk es.length r := drop_ok ok
    have ⟨k1, k2, k3, k4⟩ := runP_ok I _ (rs.take k) rfl okA
    have cl := codes_len es
    have hlc : (codes es).length ≤ 12 := by rw [cl]; exact I.2.1
    have okc : ∀ r ∈ rs, LnOk (codes es).length r := by rw [cl]; exact ok
    have okAc : ∀ r ∈ rs.take k, LnOk (codes es).length r := take_ok okc
    have okBc : ∀ r ∈ rs.drop k, LnOk (codes es).length r := drop_ok okc
    have lk := flow_look I _ (rs.take k) rfl okA
    have ⟨f1, f2⟩ := flowP_ok (cs := codes es) _ (rs.take k) rfl
    have jn := flow_join (cs := codes es) okAc _ (rs.drop k) rfl okBc
    rw [List.take_append_drop, lk] at jn
    have lA : (rs.take k).length ≤ 60 := by rw [List.length_take]; omega
    have cm : (codes (runP ([es], es) (rs.take k)).2).length = es.length := by rw [codes_len, k2]
    have ⟨g1, g2⟩ := flowP_ok (cs := codes (runP ([es], es) (rs.take k)).2) _ (rs.drop k) rfl
    have ⟨fi, _⟩ := flow_inv (cs := codes (runP ([es], es) (rs.take k)).2) _ (rs.drop k) rfl (by rw [cm]; exact okB)
    refine ⟨_, (pss_cons (ps_set (i := 3) sc_law_joined.nd rfl (.inl rfl) (pe_call Gflow hr (by rfl) Dflow.g Dflow.F.kp Dflow.b .nil pass0 (pa_cons (pe_slice sl_list (pv 0) po_none (po_some (pv 1))) (pa_cons (pe_call G_law_view (hr.mono (by decide)) (by rfl) D_law_view.g D_law_view.F.kp D_law_view.b .nil pass0 (pa_cons (pv 2) pa_nil)) pa_nil))))
    (pss_cons (ps_if (pt_not (pt_val (pe_call G_law_same (hr.mono (by decide)) (by rfl) D_law_same.g D_law_same.F.kp D_law_same.b .nil pass0 (pa_cons (pv 3) (pa_cons (pe_call G_law_led (hr.mono (by decide)) (by rfl) D_law_led.g D_law_led.F.kp D_law_led.b .nil pass0 (pa_cons (pe_slice sl_list (pv 0) po_none (po_some (pv 1))) (pa_cons (pe_call G_law_view (hr.mono (by decide)) (by rfl) D_law_view.g D_law_view.F.kp D_law_view.b .nil pass0 (pa_cons (pv 2) pa_nil)) pa_nil))) pa_nil))))) (pss_one (ps_ret pe_bl)) pss_nil)
    (pss_cons (ps_set (i := 4) sc_law_joined.nd rfl (.inl rfl) (pe_ix (r := rIxL K) ix_list (pe_call G_law_path (hr.mono (by decide)) (by rfl) D_law_path.g D_law_path.F.kp D_law_path.b .nil pass0 (pa_cons (pe_slice sl_list (pv 0) po_none (po_some (pv 1))) (pa_cons (pv 2) pa_nil))) (pe_un un_neg pe_int) (fun _ _ => rfl)))
    (pss_cons (ps_set (i := 5) sc_law_joined.nd rfl (.inl rfl) (pe_call Gflow hr (by rfl) Dflow.g Dflow.F.kp Dflow.b .nil pass0 (pa_cons (pe_slice sl_list (pv 0) (po_some (pv 1)) po_none) (pa_cons (pe_call G_law_view (hr.mono (by decide)) (by rfl) D_law_view.g D_law_view.F.kp D_law_view.b .nil pass0 (pa_cons (pv 4) pa_nil)) pa_nil))))
    (pss_cons (ps_if (pt_not (pt_val (pe_call G_law_same (hr.mono (by decide)) (by rfl) D_law_same.g D_law_same.F.kp D_law_same.b .nil pass0 (pa_cons (pv 5) (pa_cons (pe_call G_law_led (hr.mono (by decide)) (by rfl) D_law_led.g D_law_led.F.kp D_law_led.b .nil pass0 (pa_cons (pe_slice sl_list (pv 0) (po_some (pv 1)) po_none) (pa_cons (pe_call G_law_view (hr.mono (by decide)) (by rfl) D_law_view.g D_law_view.F.kp D_law_view.b .nil pass0 (pa_cons (pv 4) pa_nil)) pa_nil))) pa_nil))))) (pss_one (ps_ret pe_bl)) pss_nil)
    (pss_one (ps_ret (pe_call G_law_same (hr.mono (by decide)) (by rfl) D_law_same.g D_law_same.F.kp D_law_same.b .nil pass0 (pa_cons (pe_call Gflow hr (by rfl) Dflow.g Dflow.F.kp Dflow.b .nil pass0 (pa_cons (pe_callTy (r := rLstQ K) call_lstQ (by rfl) T.b_list (by decide +kernel) (pa_cons (pv 0) pa_nil)) (pa_cons (pe_call G_law_view (hr.mono (by decide)) (by rfl) D_law_view.g D_law_view.F.kp D_law_view.b .nil pass0 (pa_cons (pv 2) pa_nil)) pa_nil))) (pa_cons (pe_call G_law_carried (hr.mono (by decide)) (by rfl) D_law_carried.g D_law_carried.F.kp D_law_carried.b .nil pass0 (pa_cons (pv 5) (pa_cons (pv 3) pa_nil))) pa_nil)))))))))), ?_⟩
    walk_at "re"
    refine slTo hL hkp fun H1 l1 S1 nl1 hl1 => ?_
    walk_at "re"
    refine ⟨a, es, rfl, S1 _ _ hE, I, fun H2 S2 => ?_⟩
    have S02 := S1.trans S2
    walk_at "re"
    refine ⟨l1, _, rs.take k, codes es, rfl, S2 _ _ hl1, rowsTake (hR.same S02) k, hlc, okAc, fun H3 F S3 nF hF => ?_⟩
    have S03 := S02.trans S3
    have hL3 := S03 _ _ hL
    walk_at "re"
    refine slTo hL3 hkp fun H4 l4 S4 nl4 hl4 => ?_
    have S04 := S03.trans S4
    walk_at "re"
    refine ⟨a, es, rfl, S04 _ _ hE, I, fun H5 S5 => ?_⟩
    have S05 := S04.trans S5
    walk_at "re"
    refine ⟨l4, _, rs.take k, codes es, rfl, S5 _ _ hl4, rowsTake (hR.same S05) k, hlc, okAc, fun H6 D6 S6 hD6 => ?_⟩
    have S06 := S05.trans S6
    have hF6 := S6 _ _ (S5 _ _ (S4 _ _ hF))
    walk_at "re"
    refine ⟨F, D6, _, rfl, hF6, hD6, by rw [f1]; omega, ?_⟩
    have hL6 := S06 _ _ hL
    walk_at "re"
    refine slTo hL6 hkp fun H7 l7 S7 nl7 hl7 => ?_
    have S07 := S06.trans S7
    walk_at "re"
    refine ⟨l7, a, _, rs.take k, es, rfl, hl7, rowsTake (hR.same S07) k, S07 _ _ hE, I, lA, okA, fun H8 P qs S8 nP hP tq => ?_⟩
    have S08 := S07.trans S8
    obtain ⟨init, z, eqs, hz⟩ := tq.last (imgs_last k3)
    have el : atI (qs.map V.ref) (-1) = some (.ref z) := by
      rw [eqs, List.map_append]
      exact atI_last _ _
    have hL8 := S08 _ _ hL
    walk_at "re"
    refine slFrom hL8 hkp fun H9 l9 S9 nl9 hl9 => ?_
    have S09 := S08.trans S9
    walk_at "re"
    refine ⟨z, (runP ([es], es) (rs.take k)).2, rfl, S9 _ _ hz, k1, fun H10 S10 => ?_⟩
    have S010 := S09.trans S10
    walk_at "re"
    refine ⟨l9, _, rs.drop k, codes (runP ([es], es) (rs.take k)).2, rfl, S10 _ _ hl9, rowsDrop (hR.same S010) k, by rw [cm]; exact I.2.1, by rw [cm]; exact okB, fun H11 B S11 nB hB => ?_⟩
    have S011 := S010.trans S11
    have hL11 := S011 _ _ hL
    have hz11 := S11 _ _ (S10 _ _ (S9 _ _ hz))
    walk_at "re"
    refine slFrom hL11 hkp fun H12 l12 S12 nl12 hl12 => ?_
    have S012 := S011.trans S12
    walk_at "re"
    refine ⟨z, (runP ([es], es) (rs.take k)).2, rfl, S12 _ _ hz11, k1, fun H13 S13 => ?_⟩
    have S013 := S012.trans S13
    walk_at "re"
    refine ⟨l12, _, rs.drop k, codes (runP ([es], es) (rs.take k)).2, rfl, S13 _ _ hl12, rowsDrop (hR.same S013) k, by rw [cm]; exact I.2.1, by rw [cm]; exact okB, fun H14 D14 S14 hD14 => ?_⟩
    have S014 := S013.trans S14
    have hB14 := S14 _ _ (S13 _ _ (S12 _ _ hB))
    walk_at "re"
    refine ⟨B, D14, _, rfl, hB14, hD14, by rw [g1, cm]; have := I.2.1; omega, ?_⟩
    have hL14 := S014 _ _ hL
    walk_at "re"
    intro l15 nl15
    obtain ⟨H15, eH15, S15, hl15⟩ := new_gen (.lst (ps.map V.ref)) nl15
    rw [← eH15]
    have S015 := S014.trans S15
    walk_at "re"
    refine ⟨a, es, rfl, S015 _ _ hE, I, fun H16 S16 => ?_⟩
    have S016 := S015.trans S16
    walk_at "re"
    refine ⟨l15, ps, rs, codes es, rfl, S16 _ _ hl15, hR.same S016, hlc, okc, fun H17 D17 S17 nD17 hD17 => ?_⟩
    have S017 := S016.trans S17
    have S1417 := (S15.trans S16).trans S17
    have S617 := ((S7.trans S8).trans (S9.trans S10)).trans ((S11.trans S12).trans (S13.trans S14))
    walk_at "re"
    refine ⟨B, F, _, _, rfl, S1417 _ _ hB14, S1417 _ _ (S617 _ _ hF6), by rw [g1, cm]; have := I.2.1; omega, by rw [f1, cl, ← cm]; exact fi, fun H18 D18 S18 nD18 hD18 => ?_⟩
    have hD18' := S18 _ _ hD17
    rw [jn] at hD18'
    walk_at "re"
    refine ⟨D17, D18, _, rfl, hD18', hD18, by rw [car_len, g1, cm]; have := I.2.1; omega, ?_⟩
    exact q _ (S017.trans S18)
def sp_law_same_list (_K : PySem.W.Frag) : Sp := fun vs H Q _ => ∃ (a b : Addr) (ps qs : List Addr) (ess : List (List Int)), vs = [.ref a, .ref b] ∧ H a = some (.lst (ps.map V.ref)) ∧ H b = some (.lst (qs.map V.ref)) ∧ TupsAt H ps (imgs ess) ∧ TupsAt H qs (imgs ess) ∧ ess.length ≤ 1000 ∧ (∀ es ∈ ess, es.length ≤ 1000) ∧ Q (.bl true) H
set_option maxHeartbeats 4000000 in
theorem ok_law_same_list (T : Top K mg) {f : Addr} {fd : FuncData} (D : Def K mg "_law_same_list" s_law_same_list ["told", "due"] f fd) : FnOk P w K mg base CX0 3 f fd ["told", "due"] (sp_law_same_list K) := by
  obtain ⟨f_law_same, fd_law_same, D_law_same⟩ := T.d__law_same
  have G_law_same : FnOk P w K mg base CX0 2 f_law_same fd_law_same ["told", "due"] (sp_law_same K) := ok_law_same T D_law_same
  refine D.F.ok sc_law_same_list (fun vs H Q E h => ?_) (fun cdv A outer s H vs Q E hr h => ?_)
  · obtain ⟨a, b, ps, qs, ess, rfl, _⟩ := h
    rfl
  · obtain ⟨a, b, ps, qs, ess, rfl, hA, hB, tA, tB, l1, l2, q⟩ := h
    have pl : ps.length = ess.length := tA.1.trans (imgs_len _)
    have ql : qs.length = ess.length := tB.1.trans (imgs_len _)
    have hn : V.int (((ps.map V.ref).length : Nat) : Int) = V.int (((qs.map V.ref).length : Nat) : Int) := by rw [List.length_map, List.length_map, pl, ql]
    have hrg : -100000 ≤ (((qs.map V.ref).length : Nat) : Int) ∧ (((qs.map V.ref).length : Nat) : Int) ≤ 100000 := by rw [List.length_map]; omega
    refine ⟨_, (pss_cons (ps_if (PW.pt (pw_or (pt_not (pt_val (pe_callB (r := rIsi K) call_isi (by rfl) T.b_isinstance (by decide +kernel) (pa_cons (pv 0) (pa_cons (pe_bltn (v := .ty "list") (by rfl) T.b_list (by decide +kernel) rfl) pa_nil))))) (pw_or1 (pt_cmpR op_ne (pe_callB (r := rLenQ K) call_lenQ (by rfl) T.b_len PySem.boot_len (pa_cons (pv 0) pa_nil)) (pe_callB (r := rLenQ K) call_lenQ (by rfl) T.b_len PySem.boot_len (pa_cons (pv 1) pa_nil)) (nomark _))))) (pss_one (ps_ret pe_bl)) pss_nil)
    (pss_cons (ps_for PassesOwn.never rfl (pi_range1 (by rfl) T.b_range (pa_cons (pe_callB (r := rLenQ K) call_lenQ (by rfl) T.b_len PySem.boot_len (pa_cons (pv 1) pa_nil)) pa_nil)) (pg_name (i := 2) sc_law_same_list.nd rfl (.inl rfl)) (pss_one (ps_if (pt_not (pt_val (pe_call G_law_same hr (by rfl) D_law_same.g D_law_same.F.kp D_law_same.b .nil pass0 (pa_cons (pe_ix (r := rIxL K) ix_list (pv 0) (pv 2) (fun _ _ => rfl)) (pa_cons (pe_ix (r := rIxL K) ix_list (pv 1) (pv 2) (fun _ _ => rfl)) pa_nil))))) (pss_one (ps_ret pe_bl)) pss_nil)))
    (pss_one (ps_ret pe_bl)))), ?_⟩
    walk_at "re"
    refine fr_rng0 (fun i σ H' => ∃ y, σ = [some (.ref a), some (.ref b), y] ∧ H' = H) ⟨none, rfl, rfl⟩ ?_ ?_
    · rintro i σ H1 hi ⟨y, rfl, rfl⟩
      have hi2 : i < ess.length := by
        have q : i < (qs.map V.ref).length := hi
        rw [List.length_map] at q
        omega
      obtain ⟨p, ep, hp⟩ := tA.get (i := i) (by rw [imgs_len]; exact hi2)
      obtain ⟨z, ez, hz⟩ := tB.get (i := i) (by rw [imgs_len]; exact hi2)
      have ee : (imgs ess)[i]'(by rw [imgs_len]; exact hi2) = ess[i].map V.int := by simp [imgs]
      rw [ee] at hp hz
      have ea : atI (ps.map V.ref) (i : Int) = some (.ref p) := atI_nat (by rw [List.getElem?_map, ep]; rfl)
      have eb : atI (qs.map V.ref) (i : Int) = some (.ref z) := atI_nat (by rw [List.getElem?_map, ez]; rfl)
      walk_at "re"
      refine ⟨p, z, ess[i], rfl, hp, hz, l2 _ (List.getElem_mem hi2), ?_⟩
      walk_at "re"
      exact ⟨_, rfl, rfl⟩
    · rintro σ H1 ⟨y, rfl, rfl⟩
      walk_at "re"
      exact q
def spcheck_image (_K : PySem.W.Frag) : Sp := fun vs H Q _ => ∃ (a : Addr) (es : List Int), vs = [.ref a] ∧ H a = some (.tup (es.map V.int)) ∧ Img es ∧ ∀ H', Same H H' → Q .non H'
set_option maxHeartbeats 4000000 in
theorem okcheck_image (T : Top K mg) {f : Addr} {fd : FuncData} (D : Def K mg "check_image" scheck_image ["image"] f fd) : FnOk P w K mg base CX0 1 f fd ["image"] (spcheck_image K) := by
  refine D.F.ok sccheck_image (fun vs H Q E h => ?_) (fun cdv A outer s H vs Q E hr h => ?_)
  · obtain ⟨a, es, rfl, _⟩ := h
    rfl
  · obtain ⟨a, es, rfl, hT, I, q⟩ := h
    obtain ⟨I1, I2, I3⟩ := I
    refine ⟨_, (pss_cons (ps_if (PW.pt (pw_or (pt_not (pt_val (pe_callB (r := rIsi K) call_isi (by rfl) T.b_isinstance (by decide +kernel) (pa_cons (pv 0) (pa_cons (pe_bltn (v := .ty "tuple") (by rfl) T.b_tuple (by decide +kernel) rfl) pa_nil))))) (pw_or1 (pt_not (pt_chain op_le op_le pe_int (pe_callB (r := rLenQ K) call_lenQ (by rfl) T.b_len PySem.boot_len (pa_cons (pv 0) pa_nil)) (Rv.pe_k (by rfl) T.k__MOST_BLOCKS)))))) (pss_one ps_never) pss_nil)
    (pss_one (ps_for PassesOwn.never rfl (Rv.pi_enT (by rfl) T.b_enumerate (pa_cons (pv 0) pa_nil)) (pg_tup rfl (pgs_cons (pg_name (i := 1) sccheck_image.nd rfl (.inl rfl)) (pgs_cons (pg_name (i := 2) sccheck_image.nd rfl (.inl rfl)) pgs_nil))) (pss_one (ps_if (PW.pt (pw_or (pt_not (pt_val (pe_callB (r := rIsi K) call_isi (by rfl) T.b_isinstance (by decide +kernel) (pa_cons (pv 2) (pa_cons (pe_bltn (v := .ty "int") (by rfl) T.b_int (by decide +kernel) rfl) pa_nil))))) (pw_or1 (pt_not (pt_chain op_le op_le (Rv.pe_k (by rfl) T.k_EMPTY) (pv 2) (Rv.pe_k (by rfl) T.k__GREATEST)))))) (pss_one ps_never) pss_nil))))), ?_⟩
    walk_at "rd"
    refine iteD ?_ ?_
    · rw [List.length_map]
      omega
    walk_at "rd"
    refine iteNS ?_ ?_
    · rw [List.length_map]
      omega
    walk_at "rd"
    refine fr_it walk_jen (fun i σ H' => ∃ y1 y2, σ = [some (.ref a), y1, y2] ∧ Same H H') ⟨none, none, rfl, Same.refl H⟩ (fun i σ H' _ p => ?_) ?_ ?_
    · obtain ⟨_, _, _, S⟩ := p
      exact S _ _ hT
    · rintro i x σ H1 H2 hi ⟨y1, y2, rfl, S⟩ ⟨t, u, v, rfl, nT, rfl, e1, e2⟩
      cases e1
      have hi2 : i < es.length := by rw [List.length_map] at hi; exact hi
      have e3 : (es.map V.int)[i]? = some v := e2
      rw [List.getElem?_map, List.getElem?_eq_getElem hi2] at e3
      cases e3
      obtain ⟨k0, k1⟩ := I3 _ (List.getElem_mem hi2)
      walk_at "rd"
      exact ⟨_, _, rfl, same_new S nT⟩
    · rintro σ H' ⟨_, _, rfl, S⟩
      exact q _ S
def sp_is_block (_K : PySem.W.Frag) : Sp := fun vs H Q _ => ∃ t n : Int, vs = [.int t, .int n] ∧ 0 ≤ t ∧ t < n ∧ Q (.bl true) H
set_option maxHeartbeats 4000000 in
theorem ok_is_block (T : Top K mg) {f : Addr} {fd : FuncData} (D : Def K mg "_is_block" s_is_block ["block", "blocks"] f fd) : FnOk P w K mg base CX0 1 f fd ["block", "blocks"] (sp_is_block K) := by
  refine D.F.ok sc_is_block (fun vs H Q E h => ?_) (fun cdv A outer s H vs Q E hr h => ?_)
  · obtain ⟨t, n, rfl, _⟩ := h
    rfl
  · obtain ⟨t, n, rfl, h0, h1, q⟩ := h
    refine ⟨_, (pss_one (ps_ret (pe_and (pe_callB (r := rIsi K) call_isi (by rfl) T.b_isinstance (by decide +kernel) (pa_cons (pv 0) (pa_cons (pe_bltn (v := .ty "int") (by rfl) T.b_int (by decide +kernel) rfl) pa_nil))) (pe_one (pe_chain op_le op_lt pe_int (pv 0) (pv 1)))))), ?_⟩
    walk_at "re"
    rw [decide_eq_true h1]
    exact q
def sp_is_source (_K : PySem.W.Frag) : Sp := fun vs H Q _ => ∃ (r : Ln) (n : Nat), vs = [.str r.w, .int r.t, .int r.o, .int n] ∧ LnOk n r ∧ ∀ H', Same H H' → Q (.bl true) H'
set_option maxHeartbeats 4000000 in
theorem ok_is_source (T : Top K mg) {f : Addr} {fd : FuncData} (D : Def K mg "_is_source" s_is_source ["op", "target", "source", "blocks"] f fd) : FnOk P w K mg base CX0 2 f fd ["op", "target", "source", "blocks"] (sp_is_source K) := by
  obtain ⟨f_is_block, fd_is_block, D_is_block⟩ := T.d__is_block
  have G_is_block : FnOk P w K mg base CX0 1 f_is_block fd_is_block ["block", "blocks"] (sp_is_block K) := ok_is_block T D_is_block
  refine D.F.ok sc_is_source (fun vs H Q E h => ?_) (fun cdv A outer s H vs Q E hr h => ?_)
  · obtain ⟨r, n, rfl, _⟩ := h
    rfl
  · obtain ⟨r, n, rfl, ok, q⟩ := h
    refine ⟨_, (pss_cons (ps_if (pt_cmpR op_eq (pv 0) pe_str (nomark _)) (pss_one (ps_ret (pe_and (pe_callB (r := rIsi K) call_isi (by rfl) T.b_isinstance (by decide +kernel) (pa_cons (pv 2) (pa_cons (pe_bltn (v := .ty "int") (by rfl) T.b_int (by decide +kernel) rfl) pa_nil))) (pe_one (pe_cmpR op_eq (pv 2) (Rv.pe_k (by rfl) T.k_EMPTY) (nomark _)))))) pss_nil)
    (pss_one (ps_ret (pe_and (pe_cmpR (r := rIn K false) op_in_seq (pv 0) (pe_tup (pa_cons pe_str (pa_cons pe_str pa_nil))) (by rfl)) (pe_and (pe_call G_is_block hr (by rfl) D_is_block.g D_is_block.F.kp D_is_block.b .nil pass0 (pa_cons (pv 2) (pa_cons (pv 3) pa_nil))) (pe_one (pe_cmpR op_ne (pv 2) (pv 1) (nomark _)))))))), ?_⟩
    walk_at "re"
    refine ite2 (fun z => ?_) (fun z => ?_)
    · have z1 : r.w = sClear := V.str.inj (of_decide_eq_true z)
      have o1 : r.o = -1 := by
        rcases ok.word with ⟨_, e⟩ | ⟨e | e, _⟩
        · exact e
        · rw [z1] at e; exact absurd e (by decide)
        · rw [z1] at e; exact absurd e (by decide)
      walk_at "re"
      rw [decide_eq_true (show V.int r.o = V.int (-1) from congrArg V.int o1)]
      exact q _ (Same.refl _)
    · have z1 : r.w ≠ sClear := fun k => z (by rw [k]; rfl)
      obtain ⟨hw, o0, o1, o2⟩ := ok.word.resolve_left (fun k => z1 k.1)
      walk_at "re"
      refine ⟨len1000 (by simp), fun l nl => ?_⟩
      refine rd_inT upd_same rfl rfl ?_
      have hi : inV (.str r.w) [V.str (Str.ofString "copy"), .str (Str.ofString "move")] = true := by
        rcases hw with k | k <;> rw [k] <;> decide
      rw [hi]
      walk_at "re"
      refine ⟨r.o, n, rfl, o0, o1, ?_⟩
      walk_at "re"
      rw [decide_eq_false (show ¬ V.int r.o = V.int r.t from fun k => o2 (V.int.inj k))]
      exact q _ (same_new (Same.refl _) nl)
def sphas_guard_signs (_K : PySem.W.Frag) : Sp := fun vs H Q _ => ∃ gs : List Nat, vs = [.str (txt gs)] ∧ gs.length ≤ 12 ∧ (∀ c ∈ gs, Sign c) ∧ ∀ H', Same H H' → Q (.bl true) H'
set_option maxHeartbeats 4000000 in
theorem okhas_guard_signs (T : Top K mg) {f : Addr} {fd : FuncData} (D : Def K mg "has_guard_signs" shas_guard_signs ["text"] f fd) : FnOk P w K mg base CX0 1 f fd ["text"] (sphas_guard_signs K) := by
  refine D.F.ok schas_guard_signs (fun vs H Q E h => ?_) (fun cdv A outer s H vs Q E hr h => ?_)
  · obtain ⟨gs, rfl, _⟩ := h
    rfl
  · obtain ⟨gs, rfl, hl, hg, q⟩ := h
    refine ⟨_, (pss_one (ps_ret (pe_callB (r := rAll K) (cr_all rfl) (by rfl) T.b_all (by decide +kernel) (pa_cons (pe_lc (own := [("sign", 1)]) (g := gName 1) (tt := tYes) rfl schas_guard_signs.nd (pi_str (pv 0))
      (blkOk_by (own := [("sign", 1)]) (N := ["text", "sign"]) (sc := defScope shas_guard_signs) (by decide +kernel)) (fun _ _ _ _ _ => (pg_name (i := 1) schas_guard_signs.nd rfl (.inl rfl))) (fun _ _ _ _ _ => pts_nil)
      (fun _ _ _ _ _ => (pe_cmpR op_sgnQ (pv 1) (Rv.pe_k (by rfl) T.k__GUARD_SIGNS) rfl))) pa_nil)))), ?_⟩
    walk_at "re"
    refine lc_map (walk_str (z := txt gs)) ((gs.map fun _ => true).map V.bl) ?_ ?_ (fun _ _ => trivial) ?_ ?_
    · simp [txt]
    · show (txt gs).cps.size ≤ 1000
      have : (txt gs).cps.size = gs.length := by simp [txt]
      omega
    · rintro i x H2 H3 Qc R hi S ⟨rfl, c, ec, rfl⟩ qc
      have h1 : i < gs.length := by simpa [txt] using hi
      have ec2 : gs[i] = c := by
        have z : (txt gs).cps[i]? = some gs[i] := by simp [txt, h1]
        exact Option.some.inj (z.symm.trans ec)
      have hc := hg _ (List.getElem_mem h1)
      rw [ec2] at hc
      walk_at "re"
      refine ⟨rfl, ?_⟩
      walk_at "re"
      refine qc _ _ (Same.refl _) ?_
      have cd : c ∈ (Str.ofString ".*-0123456789").cps.toList := by
        show c ∈ [46, 42, 45, 48, 49, 50, 51, 52, 53, 54, 55, 56, 57]
        unfold Sign at hc
        simp
        omega
      rw [decide_eq_true cd, List.map_map, List.getElem?_map, List.getElem?_eq_getElem h1]
      rfl
    · intro H2 D S nD hD
      refine rd_all hD ?_
      have e : (gs.map fun _ => true).all id = true := by simp
      rw [e]
      exact q _ S
def sp_is_guard (_K : PySem.W.Frag) : Sp := fun vs H Q _ => ∃ (gs : List Nat) (n : Nat), vs = [.str (txt gs), .int n] ∧ n ≤ 12 ∧ (gs = [] ∨ gs.length = n) ∧ (∀ c ∈ gs, Sign c) ∧ ∀ H', Same H H' → Q (.bl true) H'
set_option maxHeartbeats 4000000 in
theorem ok_is_guard (T : Top K mg) {f : Addr} {fd : FuncData} (D : Def K mg "_is_guard" s_is_guard ["guard", "blocks"] f fd) : FnOk P w K mg base CX0 2 f fd ["guard", "blocks"] (sp_is_guard K) := by
  obtain ⟨fhas_guard_signs, fdhas_guard_signs, Dhas_guard_signs⟩ := T.d_has_guard_signs
  have Ghas_guard_signs : FnOk P w K mg base CX0 1 fhas_guard_signs fdhas_guard_signs ["text"] (sphas_guard_signs K) := okhas_guard_signs T Dhas_guard_signs
  refine D.F.ok sc_is_guard (fun vs H Q E h => ?_) (fun cdv A outer s H vs Q E hr h => ?_)
  · obtain ⟨gs, n, rfl, _⟩ := h
    rfl
  · obtain ⟨gs, n, rfl, n12, hl, hg, q⟩ := h
    have hz := txt_small (cs := gs) (by rcases hl with k | k <;> rw [k] <;> first | exact Nat.zero_le _ | omega)
    have gl : gs.length ≤ 12 := by rcases hl with k | k <;> rw [k] <;> first | exact Nat.zero_le _ | omega
    refine ⟨_, (pss_one (ps_ret (pe_and (pe_callB (r := rIsi K) call_isi (by rfl) T.b_isinstance (by decide +kernel) (pa_cons (pv 0) (pa_cons (pe_bltn (v := .ty "str") (by rfl) T.b_str (by decide +kernel) rfl) pa_nil))) (pe_and (pe_cmpR (r := rIn K false) op_in_seq (pe_callB call_lenZ (by rfl) T.b_len PySem.boot_len (pa_cons (pv 0) pa_nil)) (pe_tup (pa_cons pe_int (pa_cons (pv 1) pa_nil))) (by rfl)) (pe_one (pe_call Ghas_guard_signs hr (by rfl) Dhas_guard_signs.g Dhas_guard_signs.F.kp Dhas_guard_signs.b .nil pass0 (pa_cons (pv 0) pa_nil))))))), ?_⟩
    walk_at "re"
    refine ⟨len1000 (by simp), fun l nl => ?_⟩
    refine rd_inT upd_same rfl rfl ?_
    have hi : inV (.int ((txt gs).length : Int)) [V.int 0, .int (n : Int)] = true := by
      rw [txt_len]
      rcases hl with k | k
      · rw [k]
        rfl
      · rw [k]
        show (eqV (.int 0) (.int (n : Int)) || (eqV (.int (n : Int)) (.int (n : Int)) || false)) = true
        have : eqV (.int (n : Int)) (.int (n : Int)) = true := by
          show ((n : Int) == (n : Int)) = true
          exact beq_self_eq_true _
        rw [this, Bool.true_or, Bool.or_true]
    rw [hi]
    walk_at "re"
    refine ⟨gs, rfl, gl, hg, fun H1 S1 => ?_⟩
    exact q _ ((same_new (Same.refl _) nl).trans S1)
def sp_is_line (_K : PySem.W.Frag) : Sp := fun vs H Q _ => ∃ (a : Addr) (r : Ln) (n : Nat), vs = [.ref a, .int n] ∧ H a = some (.tup r.vals) ∧ n ≤ 12 ∧ LnOk n r ∧ ∀ H', Same H H' → Q (.bl true) H'
set_option maxHeartbeats 4000000 in
theorem ok_is_line (T : Top K mg) {f : Addr} {fd : FuncData} (D : Def K mg "_is_line" s_is_line ["line", "blocks"] f fd) : FnOk P w K mg base CX0 3 f fd ["line", "blocks"] (sp_is_line K) := by
  obtain ⟨f_is_block, fd_is_block, D_is_block⟩ := T.d__is_block
  have G_is_block : FnOk P w K mg base CX0 1 f_is_block fd_is_block ["block", "blocks"] (sp_is_block K) := ok_is_block T D_is_block
  obtain ⟨f_is_source, fd_is_source, D_is_source⟩ := T.d__is_source
  have G_is_source : FnOk P w K mg base CX0 2 f_is_source fd_is_source ["op", "target", "source", "blocks"] (sp_is_source K) := ok_is_source T D_is_source
  obtain ⟨f_is_guard, fd_is_guard, D_is_guard⟩ := T.d__is_guard
  have G_is_guard : FnOk P w K mg base CX0 2 f_is_guard fd_is_guard ["guard", "blocks"] (sp_is_guard K) := ok_is_guard T D_is_guard
  refine D.F.ok sc_is_line (fun vs H Q E h => ?_) (fun cdv A outer s H vs Q E hr h => ?_)
  · obtain ⟨a, r, n, rfl, _⟩ := h
    rfl
  · obtain ⟨a, r, n, rfl, hT, n12, ok, q⟩ := h
    have hL : H a = some (.tup [.str r.w, .int r.t, .int r.o, .str (txt r.g)]) := hT
    have hn : V.int ((([V.str r.w, .int r.t, .int r.o, .str (txt r.g)] : List V).length : Nat) : Int) = V.int 4 := rfl
    refine ⟨_, (pss_cons (ps_if (PW.pt (pw_or (pt_not (pt_val (pe_callB (r := rIsi K) call_isi (by rfl) T.b_isinstance (by decide +kernel) (pa_cons (pv 0) (pa_cons (pe_bltn (v := .ty "tuple") (by rfl) T.b_tuple (by decide +kernel) rfl) pa_nil))))) (pw_or1 (pt_cmpR op_ne (pe_callB (r := rLenQ K) call_lenQ (by rfl) T.b_len PySem.boot_len (pa_cons (pv 0) pa_nil)) pe_int (nomark _))))) (pss_one (ps_ret pe_bl)) pss_nil)
    (pss_cons (ps_asg (pv 0) (pg_tup rfl (pgs_cons (pg_name (i := 2) sc_is_line.nd rfl (.inl rfl)) (pgs_cons (pg_name (i := 3) sc_is_line.nd rfl (.inl rfl)) (pgs_cons (pg_name (i := 4) sc_is_line.nd rfl (.inl rfl)) (pgs_cons (pg_name (i := 5) sc_is_line.nd rfl (.inl rfl)) pgs_nil))))))
    (pss_one (ps_ret (pe_and (pe_call G_is_block (hr.mono (by decide)) (by rfl) D_is_block.g D_is_block.F.kp D_is_block.b .nil pass0 (pa_cons (pv 3) (pa_cons (pv 1) pa_nil))) (pe_and (pe_call G_is_source hr (by rfl) D_is_source.g D_is_source.F.kp D_is_source.b .nil pass0 (pa_cons (pv 2) (pa_cons (pv 3) (pa_cons (pv 4) (pa_cons (pv 1) pa_nil))))) (pe_one (pe_call G_is_guard hr (by rfl) D_is_guard.g D_is_guard.F.kp D_is_guard.b .nil pass0 (pa_cons (pv 5) (pa_cons (pv 1) pa_nil)))))))))), ?_⟩
    walk_at "re"
    refine ⟨r.t, n, rfl, ok.t0, ok.t1, ?_⟩
    walk_at "re"
    refine ⟨r, n, rfl, ok, fun H1 S1 => ?_⟩
    walk_at "re"
    refine ⟨r.g, n, rfl, n12, ok.gl, ok.gs, fun H2 S2 => ?_⟩
    exact q _ (S1.trans S2)
def spcheck_script (_K : PySem.W.Frag) : Sp := fun vs H Q _ => ∃ (l a : Addr) (ps : List Addr) (rs : List Ln) (es : List Int), vs = [.ref l, .ref a] ∧ H l = some (.lst (ps.map V.ref)) ∧ TupsAt H ps (rows rs) ∧ H a = some (.tup (es.map V.int)) ∧ Img es ∧ rs.length ≤ 60 ∧ (∀ r ∈ rs, LnOk es.length r) ∧ ∀ H', Same H H' → Q .non H'
set_option maxHeartbeats 4000000 in
theorem okcheck_script (T : Top K mg) {f : Addr} {fd : FuncData} (D : Def K mg "check_script" scheck_script ["script", "image"] f fd) : FnOk P w K mg base CX0 4 f fd ["script", "image"] (spcheck_script K) := by
  obtain ⟨fcheck_image, fdcheck_image, Dcheck_image⟩ := T.d_check_image
  have Gcheck_image : FnOk P w K mg base CX0 1 fcheck_image fdcheck_image ["image"] (spcheck_image K) := okcheck_image T Dcheck_image
  obtain ⟨f_is_line, fd_is_line, D_is_line⟩ := T.d__is_line
  have G_is_line : FnOk P w K mg base CX0 3 f_is_line fd_is_line ["line", "blocks"] (sp_is_line K) := ok_is_line T D_is_line
  refine D.F.ok sccheck_script (fun vs H Q E h => ?_) (fun cdv A outer s H vs Q E hr h => ?_)
  · obtain ⟨l, a, ps, rs, es, rfl, _⟩ := h
    rfl
  · obtain ⟨l, a, ps, rs, es, rfl, hL, hR, hE, I, l60, ok, q⟩ := h
    have pl : ps.length = rs.length := hR.1.trans (rows_len rs)
    refine ⟨_, (pss_cons (ps_expr (pe_call Gcheck_image (hr.mono (by decide)) (by rfl) Dcheck_image.g Dcheck_image.F.kp Dcheck_image.b .nil pass0 (pa_cons (pv 1) pa_nil)))
    (pss_cons (ps_if (PW.pt (pw_or (pt_not (pt_val (pe_callB (r := rIsi K) call_isi (by rfl) T.b_isinstance (by decide +kernel) (pa_cons (pv 0) (pa_cons (pe_bltn (v := .ty "list") (by rfl) T.b_list (by decide +kernel) rfl) pa_nil))))) (pw_or1 (pt_cmpR op_gt (pe_callB (r := rLenQ K) call_lenQ (by rfl) T.b_len PySem.boot_len (pa_cons (pv 0) pa_nil)) (Rv.pe_k (by rfl) T.k_MOST_LINES) (nomark _))))) (pss_one ps_never) pss_nil)
    (pss_one (ps_for PassesOwn.never rfl (pi_enum (by rfl) T.b_enumerate (pa_cons (pv 0) pa_nil)) (pg_tup rfl (pgs_cons (pg_name (i := 2) sccheck_script.nd rfl (.inl rfl)) (pgs_cons (pg_name (i := 3) sccheck_script.nd rfl (.inl rfl)) pgs_nil))) (pss_one (ps_if (pt_not (pt_val (pe_call G_is_line hr (by rfl) D_is_line.g D_is_line.F.kp D_is_line.b .nil pass0 (pa_cons (pv 3) (pa_cons (pe_callB (r := rLenQ K) call_lenQ (by rfl) T.b_len PySem.boot_len (pa_cons (pv 1) pa_nil)) pa_nil))))) (pss_one ps_never) pss_nil)))))), ?_⟩
    walk_at "re"
    refine ⟨a, es, rfl, hE, I, fun H1 S1 => ?_⟩
    have hL1 := S1 _ _ hL
    have hE1 := S1 _ _ hE
    have n60 : ¬ ((60 : Int) < (((ps.map V.ref).length : Nat) : Int)) := by
      rw [List.length_map]
      omega
    walk_at "re"
    refine fr_it (walk_enum (xs := ps.map V.ref)) (fun i σ H' => ∃ y2 y3, σ = [some (.ref l), some (.ref a), y2, y3] ∧ Same H1 H') ⟨none, none, rfl, Same.refl _⟩ (fun i σ H' _ p => ?_) ?_ ?_
    · obtain ⟨_, _, _, S⟩ := p
      exact SqL.of (S _ _ hL1)
    · rintro i x σ H2 H3 hi ⟨y2, y3, rfl, S⟩ ⟨t, u, v, rfl, nT, rfl, e1, e2⟩
      cases e1
      have hi2 : i < rs.length := by rw [List.length_map] at hi; omega
      have e3 : (ps.map V.ref)[i]? = some v := e2
      obtain ⟨p, ep, hp⟩ := (hR.same (S1.trans S)).get (i := i) (by rw [rows_len]; exact hi2)
      rw [List.getElem?_map, ep] at e3
      cases e3
      have er : (rows rs)[i]'(by rw [rows_len]; exact hi2) = rs[i].vals := by simp [rows]
      rw [er] at hp
      have hp2 : (upd H2 t (.tup [.int (i : Nat), .ref p])) p = some (.tup rs[i].vals) := by rw [upd_ne (ne_of_none hp nT)]; exact hp
      have hE2 : (upd H2 t (.tup [.int (i : Nat), .ref p])) a = some (.tup (es.map V.int)) := by
        have z := S _ _ hE1
        rw [upd_ne (ne_of_none z nT)]
        exact z
      walk_at "re"
      refine ⟨p, rs[i], es.length, by rw [List.length_map], hp2, I.2.1, ok _ (List.getElem_mem hi2), fun H4 S4 => ?_⟩
      walk_at "re"
      exact ⟨_, _, rfl, (same_new S nT).trans S4⟩
    · rintro σ H2 ⟨y2, y3, rfl, S⟩
      exact q _ (S1.trans S)
def sp_sign (_K : PySem.W.Frag) : Sp := fun vs H Q _ => ∃ e : Int, vs = [.int e] ∧ (-1 ≤ e ∧ e ≤ 999) ∧ Q (.str (one (sg e))) H
set_option maxHeartbeats 4000000 in
theorem ok_sign (T : Top K mg) {f : Addr} {fd : FuncData} (D : Def K mg "_sign" s_sign ["entry"] f fd) : FnOk P w K mg base CX0 1 f fd ["entry"] (sp_sign K) := by
  refine D.F.ok sc_sign (fun vs H Q E h => ?_) (fun cdv A outer s H vs Q E hr h => ?_)
  · obtain ⟨e, rfl, _⟩ := h
    rfl
  · obtain ⟨e, rfl, ⟨he0, he1⟩, q⟩ := h
    refine ⟨_, (pss_cons (ps_if (pt_cmpR op_eq (pv 0) (Rv.pe_k (by rfl) T.k_EMPTY) (nomark _)) (pss_one (ps_ret pe_str)) pss_nil)
    (pss_one (ps_ret (pe_callTy call_strQ (by rfl) T.b_str (by decide +kernel) (pa_cons (pe_op op_fdivN (pv 0) pe_int) pa_nil))))), ?_⟩
    walk_at "rd"
    refine ite2 (fun z => ?_) (fun z => ?_)
    · have z1 : e = -1 := V.int.inj (of_decide_eq_true z)
      walk_at "rd"
      rw [z1] at q
      exact q
    · have z1 : e ≠ -1 := fun k => z (by rw [k]; rfl)
      walk_at "rd"
      obtain ⟨k0, k1⟩ := kind_small (e := e) (by omega) he1
      refine rd_strQ k0 k1 ?_
      rw [digit_txtI k0 k1]
      unfold sg at q
      rw [if_neg z1] at q
      exact q
def splook (_K : PySem.W.Frag) : Sp := fun vs H Q _ => ∃ (a : Addr) (es : List Int), vs = [.ref a] ∧ H a = some (.tup (es.map V.int)) ∧ Img es ∧ ∀ H', Same H H' → Q (.str (txt (codes es))) H'
set_option maxHeartbeats 4000000 in
theorem oklook (T : Top K mg) {f : Addr} {fd : FuncData} (D : Def K mg "look" slook ["image"] f fd) : FnOk P w K mg base CX0 2 f fd ["image"] (splook K) := by
  obtain ⟨fcheck_image, fdcheck_image, Dcheck_image⟩ := T.d_check_image
  have Gcheck_image : FnOk P w K mg base CX0 1 fcheck_image fdcheck_image ["image"] (spcheck_image K) := okcheck_image T Dcheck_image
  obtain ⟨f_sign, fd_sign, D_sign⟩ := T.d__sign
  have G_sign : FnOk P w K mg base CX0 1 f_sign fd_sign ["entry"] (sp_sign K) := ok_sign T D_sign
  refine D.F.ok sclook (fun vs H Q E h => ?_) (fun cdv A outer s H vs Q E hr h => ?_)
  · obtain ⟨a, es, rfl, _⟩ := h
    rfl
  · obtain ⟨a, es, rfl, hT, I, q⟩ := h
    have I0 := I
    obtain ⟨I1, I2, I3⟩ := I
    refine ⟨_, (pss_cons (ps_expr (pe_call Gcheck_image hr (by rfl) Dcheck_image.g Dcheck_image.F.kp Dcheck_image.b .nil pass0 (pa_cons (pv 0) pa_nil)))
    (pss_one (ps_ret (pe_join pe_str (pe_lc (own := [("entry", 1)]) (g := gName 1) (tt := tYes) rfl sclook.nd (pi_tup (pv 0))
      (blkOk_by (own := [("entry", 1)]) (N := ["image", "entry"]) (sc := defScope slook) (by decide +kernel)) (fun _ _ _ _ _ => (pg_name (i := 1) sclook.nd rfl (.inl rfl))) (fun _ _ _ _ _ => pts_nil)
      (fun _ _ _ _ _ => (pe_call G_sign hr (by rfl) D_sign.g D_sign.F.kp D_sign.b .nil pass0 (pa_cons (pv 1) pa_nil)))))))), ?_⟩
    walk_at "rd"
    refine ⟨a, es, rfl, hT, I0, fun H1 S1 => ?_⟩
    walk_at "rd"
    refine lc_map (walk_tup (xs := es.map V.int)) ((codes es).map fun c => V.str (one c)) ?_ ?_ (fun H' S => SqT.of (S _ _ (S1 _ _ hT))) ?_ ?_
    · simp [codes]
    · rw [List.length_map]
      omega
    · rintro i x H2 H3 Qc R hi S ⟨rfl, ex⟩ qc
      have hi2 : i < es.length := by rw [List.length_map] at hi; exact hi
      rw [List.getElem?_map, List.getElem?_eq_getElem hi2] at ex
      cases ex
      walk_at "rd"
      refine ⟨rfl, ?_⟩
      walk_at "rd"
      refine ⟨_, rfl, I3 _ (List.getElem_mem hi2), qc _ _ (Same.refl _) ?_⟩
      unfold codes
      rw [List.map_map, List.getElem?_map, List.getElem?_eq_getElem hi2]
      rfl
    · intro H2 D S nD hD
      refine ⟨_, D, (codes es).map one, rfl, rfl, .inl (SqL.of (by rw [List.map_map]; exact hD)), ?_, ?_⟩
      · rw [ones_sum, List.length_map, codes_len]
        show es.length + es.length * 0 ≤ _
        omega
      · rw [join_sg]
        exact q _ (S1.trans S)
def spapply_line (_K : PySem.W.Frag) : Sp := fun vs H Q _ => ∃ (a b : Addr) (r : Ln) (es : List Int), vs = [.ref a, .ref b] ∧ H a = some (.tup r.vals) ∧ H b = some (.tup (es.map V.int)) ∧ Img es ∧ LnOk es.length r ∧
  ∀ H' D, Same H H' → H D = none → H' D = some (.tup ((carL (origL r (codes es)) es).map V.int)) → Q (.ref D) H'
set_option maxHeartbeats 4000000 in
theorem okapply_line (T : Top K mg) {f : Addr} {fd : FuncData} (D : Def K mg "apply_line" sapply_line ["line", "image"] f fd) : FnOk P w K mg base CX0 5 f fd ["line", "image"] (spapply_line K) := by
  obtain ⟨fsources, fdsources, Dsources⟩ := T.d_sources
  have Gsources : FnOk P w K mg base CX0 4 fsources fdsources ["line", "view"] (spsources K) := oksources T Dsources
  obtain ⟨flook, fdlook, Dlook⟩ := T.d_look
  have Glook : FnOk P w K mg base CX0 2 flook fdlook ["image"] (splook K) := oklook T Dlook
  refine D.F.ok scapply_line (fun vs H Q E h => ?_) (fun cdv A outer s H vs Q E hr h => ?_)
  · obtain ⟨a, b, r, es, rfl, _⟩ := h
    rfl
  · obtain ⟨a, b, r, es, rfl, hT, hE, I, ok, q⟩ := h
    have ⟨I1, I2, I3⟩ := I
    have cl := codes_len es
    refine ⟨_, (pss_one (ps_ret (pe_callTy (r := rTupQ K) call_tupQ (by rfl) T.b_tuple (by decide +kernel) (pa_cons (pe_lc (own := [("block", 2)]) (g := gName 2) (tt := tYes) rfl scapply_line.nd (pi_tup (pe_call Gsources hr (by rfl) Dsources.g Dsources.F.kp Dsources.b .nil pass0 (pa_cons (pv 0) (pa_cons (pe_call Glook (hr.mono (by decide)) (by rfl) Dlook.g Dlook.F.kp Dlook.b .nil pass0 (pa_cons (pv 1) pa_nil)) pa_nil))))
      (blkOk_by (own := [("block", 2)]) (N := ["line", "image", "block"]) (sc := defScope sapply_line) (by decide +kernel)) (fun _ _ _ _ _ => (pg_name (i := 2) scapply_line.nd rfl (.inl rfl))) (fun _ _ _ _ _ => pts_nil)
      (fun _ _ _ _ _ => (pe_ifExp (pt_cmpR op_eq (pv 2) (Rv.pe_k (by rfl) T.k_EMPTY) (nomark _)) (Rv.pe_k (by rfl) T.k_EMPTY) (pe_ix (r := rIxT K) ix_tup (pv 1) (pv 2) (fun _ _ => rfl))))) pa_nil)))), ?_⟩
    walk_at "rd"
    refine ⟨b, es, rfl, hE, I, fun H1 S1 => ?_⟩
    walk_at "rd"
    refine ⟨a, r, codes es, rfl, S1 _ _ hT, by omega, by rw [cl]; exact ok, fun H2 D2 S2 nD2 hD2 => ?_⟩
    walk_at "rd"
    have hl2 : (origL r (codes es)).length = es.length := (orig_len _ _).trans cl
    refine lc_map (walk_tup (xs := (origL r (codes es)).map V.int)) ((carL (origL r (codes es)) es).map V.int) ?_ ?_ (fun H' S => SqT.of (S _ _ hD2)) ?_ ?_
    · simp [carL]
    · rw [List.length_map, hl2]
      omega
    · rintro i x H3 H4 Qc R hi S ⟨rfl, ex⟩ qc
      have hi2 : i < (origL r (codes es)).length := by rw [List.length_map] at hi; exact hi
      have eg := car_get (es := es) hi2
      rw [List.getElem?_map, List.getElem?_eq_getElem hi2] at ex
      cases ex
      have hk := orig_held (vs := codes es) (r := r) (by rw [cl]; exact ok) _ (List.getElem_mem hi2)
      rw [cl] at hk
      have hE2 : H4 b = some (.tup (es.map V.int)) := S _ _ (S2 _ _ (S1 _ _ hE))
      generalize (origL r (codes es))[i] = k at *
      walk_at "rd"
      refine ⟨rfl, ?_⟩
      walk_at "rd"
      refine ite2 (fun z => ?_) (fun z => ?_)
      · have z1 : k = -1 := V.int.inj (of_decide_eq_true z)
        walk_at "rd"
        rw [if_pos z1] at eg
        exact qc _ _ (Same.refl _) eg
      · have z1 : k ≠ -1 := fun e => z (by rw [e]; rfl)
        have hk2 : 0 ≤ k ∧ k < es.length := by omega
        have ea := atI_ints hk2.1 hk2.2
        walk_at "rd"
        rw [if_neg z1] at eg
        exact qc _ _ (Same.refl _) eg
    · intro H3 D S nD hD
      walk_at "rd"
      intro l nl
      have S3 := (S1.trans S2).trans S
      exact q _ _ (same_new S3 nl) (S3.free nl) upd_same
def spimages (_K : PySem.W.Frag) : Sp := fun vs H Q _ => ∃ (l a : Addr) (ps : List Addr) (rs : List Ln) (es : List Int), vs = [.ref l, .ref a] ∧ H l = some (.lst (ps.map V.ref)) ∧ TupsAt H ps (rows rs) ∧ H a = some (.tup (es.map V.int)) ∧ Img es ∧ rs.length ≤ 60 ∧ (∀ r ∈ rs, LnOk es.length r) ∧
  ∀ H' D qs, Same H H' → H D = none → H' D = some (.lst (qs.map V.ref)) → TupsAt H' qs (imgs (runP ([es], es) rs).1) → Q (.ref D) H'
set_option maxHeartbeats 4000000 in
theorem okimages (T : Top K mg) {f : Addr} {fd : FuncData} (D : Def K mg "images" simages ["script", "image"] f fd) : FnOk P w K mg base CX0 6 f fd ["script", "image"] (spimages K) := by
  obtain ⟨fcheck_script, fdcheck_script, Dcheck_script⟩ := T.d_check_script
  have Gcheck_script : FnOk P w K mg base CX0 4 fcheck_script fdcheck_script ["script", "image"] (spcheck_script K) := okcheck_script T Dcheck_script
  obtain ⟨fapply_line, fdapply_line, Dapply_line⟩ := T.d_apply_line
  have Gapply_line : FnOk P w K mg base CX0 5 fapply_line fdapply_line ["line", "image"] (spapply_line K) := okapply_line T Dapply_line
  refine D.F.ok scimages (fun vs H Q E h => ?_) (fun cdv A outer s H vs Q E hr h => ?_)
  · obtain ⟨l, a, ps, rs, es, rfl, _⟩ := h
    rfl
  · obtain ⟨l, a, ps, rs, es, rfl, hL, hR, hE, I, l60, ok, q⟩ := h
    have pl : ps.length = rs.length := hR.1.trans (rows_len rs)
    refine ⟨_, (pss_cons (ps_expr (pe_call Gcheck_script (hr.mono (by decide)) (by rfl) Dcheck_script.g Dcheck_script.F.kp Dcheck_script.b .nil pass0 (pa_cons (pv 0) (pa_cons (pv 1) pa_nil))))
    (pss_cons (ps_set (i := 2) scimages.nd rfl (.inl rfl) (pe_lst (pa_cons (pv 1) pa_nil)))
    (pss_cons (ps_for PassesOwn.never rfl (pi_list (pv 0)) (pg_name (i := 3) scimages.nd rfl (.inl rfl)) (pss_one (ps_expr (pe_bm PySem.F.plainAttrs_list PySem.F.slot_list_append PySem.F.type_list_append mt_append (pv 2) (pa_cons (pe_call Gapply_line hr (by rfl) Dapply_line.g Dapply_line.F.kp Dapply_line.b .nil pass0 (pa_cons (pv 3) (pa_cons (pe_ix (r := rIxL K) ix_list (pv 2) (pe_un un_neg pe_int) (fun _ _ => rfl)) pa_nil))) pa_nil)))))
    (pss_one (ps_ret (pv 2)))))), ?_⟩
    walk_at "re"
    refine ⟨l, a, ps, rs, es, rfl, hL, hR, hE, I, l60, ok, fun H1 S1 => ?_⟩
    have hL1 := S1 _ _ hL
    have hE1 := S1 _ _ hE
    walk_at "re"
    refine ⟨len1000 (by simp), fun f nf => ?_⟩
    have S2 : Same H1 (upd H1 f (.lst [.ref a])) := same_new (Same.refl _) nf
    have hL2 := S2 _ _ hL1
    walk_at "re"
    refine fr_it (walk_list (xs := ps.map V.ref)) (fun i σ H' => ∃ (y3 : Option V) (qs : List Addr), σ = [some (.ref l), some (.ref a), some (.ref f), y3] ∧ Same H1 H' ∧ H' f = some (.lst (qs.map V.ref)) ∧ TupsAt H' qs (imgs (runP ([es], es) (rs.take i)).1)) ⟨none, [a], rfl, S2, upd_same, ?_⟩ (fun i σ H' _ p => ?_) ?_ ?_
    · exact TupsAt.nil.app (S2 _ _ hE1)
    · obtain ⟨_, _, _, S, _⟩ := p
      exact SqL.of (S _ _ hL1)
    · rintro i x σ H0 H3 hi ⟨y3, qs, rfl, S, hf, hq⟩ ⟨rfl, ex⟩
      have hi2 : i < rs.length := by rw [List.length_map] at hi; omega
      obtain ⟨p, ep, hp⟩ := (hR.same (S1.trans S)).get (i := i) (by rw [rows_len]; exact hi2)
      rw [List.getElem?_map, ep] at ex
      cases ex
      have er : (rows rs)[i]'(by rw [rows_len]; exact hi2) = rs[i].vals := by simp [rows]
      rw [er] at hp
      obtain ⟨k1, k2, k3, k4⟩ := runP_ok I _ (rs.take i) rfl (take_ok ok)
      obtain ⟨init, z, eqs, hz⟩ := hq.last (imgs_last k3)
      have el : atI (qs.map V.ref) (-1) = some (.ref z) := by
        rw [eqs, List.map_append]
        exact atI_last _ _
      walk_at "re"
      refine ⟨p, z, rs[i], (runP ([es], es) (rs.take i)).2, rfl, hp, hz, k1, by rw [k2]; exact ok _ (List.getElem_mem hi2), fun H4 D S4 nD hD => ?_⟩
      have hf4 := S4 _ _ hf
      have hlen : (qs.map V.ref).length < 1000 := by
        rw [List.length_map, hq.1, imgs_len, k4, List.length_take]
        omega
      walk_at "re"
      refine ⟨_, qs ++ [D], rfl, same_mut (S.trans S4) nf, by rw [upd_same, List.map_append]; rfl, ?_⟩
      rw [take_next hi2, runP_add]
      have q2 := ((hq.same S4).app hD).mut (o := .lst (qs.map V.ref ++ [.ref D])) hf4
      show TupsAt _ _ (imgs (_ ++ [_]))
      rw [imgs_app]
      exact q2
    · rintro σ H3 ⟨y3, qs, rfl, S, hf, hq⟩
      rw [List.length_map, pl, List.take_of_length_le (Nat.le_refl _)] at hq
      walk_at "re"
      exact q _ f qs (S1.trans S) (S1.free nf) hf hq
def spplain_run (_K : PySem.W.Frag) : Sp := fun vs H Q _ => ∃ (l a : Addr) (ps : List Addr) (rs : List Ln) (es : List Int), vs = [.ref l, .ref a] ∧ H l = some (.lst (ps.map V.ref)) ∧ TupsAt H ps (rows rs) ∧ H a = some (.tup (es.map V.int)) ∧ Img es ∧ rs.length ≤ 60 ∧ (∀ r ∈ rs, LnOk es.length r) ∧
  ∀ H' D, Same H H' → H' D = some (.tup ((runP ([es], es) rs).2.map V.int)) → Q (.ref D) H'
set_option maxHeartbeats 4000000 in
theorem okplain_run (T : Top K mg) {f : Addr} {fd : FuncData} (D : Def K mg "plain_run" splain_run ["script", "image"] f fd) : FnOk P w K mg base CX0 7 f fd ["script", "image"] (spplain_run K) := by
  obtain ⟨fimages, fdimages, Dimages⟩ := T.d_images
  have Gimages : FnOk P w K mg base CX0 6 fimages fdimages ["script", "image"] (spimages K) := okimages T Dimages
  refine D.F.ok scplain_run (fun vs H Q E h => ?_) (fun cdv A outer s H vs Q E hr h => ?_)
  · obtain ⟨l, a, ps, rs, es, rfl, _⟩ := h
    rfl
  · obtain ⟨l, a, ps, rs, es, rfl, hL, hR, hE, I, l60, ok, q⟩ := h
    refine ⟨_, (pss_one (ps_ret (pe_ix (r := rIxL K) ix_list (pe_call Gimages hr (by rfl) Dimages.g Dimages.F.kp Dimages.b .nil pass0 (pa_cons (pv 0) (pa_cons (pv 1) pa_nil))) (pe_un un_neg pe_int) (fun _ _ => rfl)))), ?_⟩
    walk_at "re"
    refine ⟨l, a, ps, rs, es, rfl, hL, hR, hE, I, l60, ok, fun H1 f qs S1 nf hf hq => ?_⟩
    obtain ⟨k1, k2, k3, k4⟩ := runP_ok I _ rs rfl ok
    obtain ⟨init, z, rfl, hz⟩ := hq.last (imgs_last k3)
    have el : atI ((init ++ [z]).map V.ref) (-1) = some (.ref z) := by
      rw [List.map_append]
      exact atI_last _ _
    walk_at "re"
    exact q _ z S1 hz
def sp_law_runs (_K : PySem.W.Frag) : Sp := fun vs H Q _ => ∃ (l a : Addr) (ps : List Addr) (rs : List Ln) (es : List Int), vs = [.ref l, .ref a] ∧ H l = some (.lst (ps.map V.ref)) ∧ TupsAt H ps (rows rs) ∧ H a = some (.tup (es.map V.int)) ∧ Img es ∧ rs.length ≤ 60 ∧ (∀ r ∈ rs, LnOk es.length r) ∧ ∀ H', Same H H' → Q (.bl true) H'
set_option maxHeartbeats 4000000 in
theorem ok_law_runs (T : Top K mg) {f : Addr} {fd : FuncData} (D : Def K mg "_law_runs" s_law_runs ["rows", "image"] f fd) : FnOk P w K mg base CX0 8 f fd ["rows", "image"] (sp_law_runs K) := by
  obtain ⟨f_law_path, fd_law_path, D_law_path⟩ := T.d__law_path
  have G_law_path : FnOk P w K mg base CX0 4 f_law_path fd_law_path ["rows", "image"] (sp_law_path K) := ok_law_path T D_law_path
  obtain ⟨fflow, fdflow, Dflow⟩ := T.d_flow
  have Gflow : FnOk P w K mg base CX0 6 fflow fdflow ["script", "view"] (spflow K) := okflow T Dflow
  obtain ⟨f_law_view, fd_law_view, D_law_view⟩ := T.d__law_view
  have G_law_view : FnOk P w K mg base CX0 1 f_law_view fd_law_view ["image"] (sp_law_view K) := ok_law_view T D_law_view
  obtain ⟨f_law_carried, fd_law_carried, D_law_carried⟩ := T.d__law_carried
  have G_law_carried : FnOk P w K mg base CX0 1 f_law_carried fd_law_carried ["held", "entries"] (sp_law_carried K) := ok_law_carried T D_law_carried
  obtain ⟨f_law_same_list, fd_law_same_list, D_law_same_list⟩ := T.d__law_same_list
  have G_law_same_list : FnOk P w K mg base CX0 3 f_law_same_list fd_law_same_list ["told", "due"] (sp_law_same_list K) := ok_law_same_list T D_law_same_list
  obtain ⟨f_law_same, fd_law_same, D_law_same⟩ := T.d__law_same
  have G_law_same : FnOk P w K mg base CX0 2 f_law_same fd_law_same ["told", "due"] (sp_law_same K) := ok_law_same T D_law_same
  obtain ⟨fimages, fdimages, Dimages⟩ := T.d_images
  have Gimages : FnOk P w K mg base CX0 6 fimages fdimages ["script", "image"] (spimages K) := okimages T Dimages
  obtain ⟨fplain_run, fdplain_run, Dplain_run⟩ := T.d_plain_run
  have Gplain_run : FnOk P w K mg base CX0 7 fplain_run fdplain_run ["script", "image"] (spplain_run K) := okplain_run T Dplain_run
  obtain ⟨f_law_led, fd_law_led, D_law_led⟩ := T.d__law_led
  have G_law_led : FnOk P w K mg base CX0 4 f_law_led fd_law_led ["rows", "view"] (sp_law_led K) := ok_law_led T D_law_led
  refine D.F.ok sc_law_runs (fun vs H Q E h => ?_) (fun cdv A outer s H vs Q E hr h => ?_)
  · obtain ⟨l, a, ps, rs, es, rfl, _⟩ := h
    rfl
  · obtain ⟨l, a, ps, rs, es, rfl, hL, hR, hE, I, l60, ok, q⟩ := h
    have pl : ps.length = rs.length := hR.1.trans (rows_len rs)
    have ⟨k1, k2, k3, k4⟩ := runP_ok I _ rs rfl ok
    have cl := codes_len es
    have okc : ∀ r ∈ rs, LnOk (codes es).length r := by rw [cl]; exact ok
    have hlc : (codes es).length ≤ 12 := by rw [cl]; exact I.2.1
    have ⟨f1, f2⟩ := flowP_ok (cs := codes es) _ rs rfl
    have ⟨fi, _⟩ := flow_inv (cs := codes es) _ rs rfl okc
    refine ⟨_, (pss_cons (ps_set (i := 2) sc_law_runs.nd rfl (.inl rfl) (pe_call G_law_path (hr.mono (by decide)) (by rfl) D_law_path.g D_law_path.F.kp D_law_path.b .nil pass0 (pa_cons (pv 0) (pa_cons (pv 1) pa_nil))))
    (pss_cons (ps_set (i := 3) sc_law_runs.nd rfl (.inl rfl) (pe_callTy (r := rLstQ K) call_lstQ (by rfl) T.b_list (by decide +kernel) (pa_cons (pv 0) pa_nil)))
    (pss_cons (ps_if (PW.pt (pw_or (pt_not (pt_val (pe_call G_law_same_list (hr.mono (by decide)) (by rfl) D_law_same_list.g D_law_same_list.F.kp D_law_same_list.b .nil pass0 (pa_cons (pe_call Gimages (hr.mono (by decide)) (by rfl) Dimages.g Dimages.F.kp Dimages.b .nil pass0 (pa_cons (pv 3) (pa_cons (pv 1) pa_nil))) (pa_cons (pv 2) pa_nil))))) (pw_or1 (pt_not (pt_val (pe_call G_law_same (hr.mono (by decide)) (by rfl) D_law_same.g D_law_same.F.kp D_law_same.b .nil pass0 (pa_cons (pe_call Gplain_run hr (by rfl) Dplain_run.g Dplain_run.F.kp Dplain_run.b .nil pass0 (pa_cons (pv 3) (pa_cons (pv 1) pa_nil))) (pa_cons (pe_ix (r := rIxL K) ix_list (pv 2) (pe_un un_neg pe_int) (fun _ _ => rfl)) pa_nil)))))))) (pss_one (ps_ret pe_bl)) pss_nil)
    (pss_cons (ps_set (i := 4) sc_law_runs.nd rfl (.inl rfl) (pe_call Gflow (hr.mono (by decide)) (by rfl) Dflow.g Dflow.F.kp Dflow.b .nil pass0 (pa_cons (pv 3) (pa_cons (pe_call G_law_view (hr.mono (by decide)) (by rfl) D_law_view.g D_law_view.F.kp D_law_view.b .nil pass0 (pa_cons (pv 1) pa_nil)) pa_nil))))
    (pss_cons (ps_if (PW.pt (pw_or (pt_not (pt_val (pe_call G_law_same (hr.mono (by decide)) (by rfl) D_law_same.g D_law_same.F.kp D_law_same.b .nil pass0 (pa_cons (pv 4) (pa_cons (pe_call G_law_led (hr.mono (by decide)) (by rfl) D_law_led.g D_law_led.F.kp D_law_led.b .nil pass0 (pa_cons (pv 0) (pa_cons (pe_call G_law_view (hr.mono (by decide)) (by rfl) D_law_view.g D_law_view.F.kp D_law_view.b .nil pass0 (pa_cons (pv 1) pa_nil)) pa_nil))) pa_nil))))) (pw_or1 (pt_cmpR (op_neD hr.units) (pv 3) (pv 0) (nomark _))))) (pss_one (ps_ret pe_bl)) pss_nil)
    (pss_one (ps_ret (pe_cmpR (op_eqD hr.units) (pe_call G_law_carried (hr.mono (by decide)) (by rfl) D_law_carried.g D_law_carried.F.kp D_law_carried.b .nil pass0 (pa_cons (pv 4) (pa_cons (pv 1) pa_nil))) (pe_ix (r := rIxL K) ix_list (pv 2) (pe_un un_neg pe_int) (fun _ _ => rfl)) (nomark _))))))))), ?_⟩
    walk_at "re"
    refine ⟨l, a, ps, rs, es, rfl, hL, hR, hE, I, l60, ok, fun H1 P qs S1 nP hP tq => ?_⟩
    obtain ⟨init, z, eqs, hz⟩ := tq.last (imgs_last k3)
    have el : atI (qs.map V.ref) (-1) = some (.ref z) := by
      rw [eqs, List.map_append]
      exact atI_last _ _
    have hL1 := S1 _ _ hL
    walk_at "re"
    intro h1 nh1
    obtain ⟨H2, eH2, S2, hh2⟩ := new_gen (.lst (ps.map V.ref)) nh1
    rw [← eH2]
    have S02 := S1.trans S2
    walk_at "re"
    refine ⟨h1, a, ps, rs, es, rfl, hh2, hR.same S02, S02 _ _ hE, I, l60, ok, fun H3 D3 qs3 S3 nD3 hD3 t3 => ?_⟩
    have S03 := S02.trans S3
    have hP3 := S3 _ _ (S2 _ _ hP)
    walk_at "re"
    refine ⟨D3, P, qs3, qs, (runP ([es], es) rs).1, rfl, hD3, hP3, t3, tq.same (S2.trans S3), by omega, fun x hx => by rw [(runP_all _ rs rfl).1 x hx]; have := I.2.1; omega, ?_⟩
    walk_at "re"
    refine ⟨h1, a, ps, rs, es, rfl, S3 _ _ hh2, hR.same S03, S03 _ _ hE, I, l60, ok, fun H4 D4 S4 hD4 => ?_⟩
    have S04 := S03.trans S4
    have hP4 := S4 _ _ hP3
    have hz4 := S4 _ _ (S3 _ _ (S2 _ _ hz))
    walk_at "re"
    refine ⟨D4, z, (runP ([es], es) rs).2, rfl, hD4, hz4, by rw [k2]; have := I.2.1; omega, ?_⟩
    walk_at "re"
    refine ⟨a, es, rfl, S04 _ _ hE, I, fun H5 S5 => ?_⟩
    have S05 := S04.trans S5
    have hh5 := S5 _ _ (S4 _ _ (S3 _ _ hh2))
    walk_at "re"
    refine ⟨h1, ps, rs, codes es, rfl, hh5, hR.same S05, hlc, okc, fun H6 D6 S6 nD6 hD6 => ?_⟩
    have S06 := S05.trans S6
    walk_at "re"
    refine ⟨a, es, rfl, S06 _ _ hE, I, fun H7 S7 => ?_⟩
    have S07 := S06.trans S7
    walk_at "re"
    refine ⟨l, ps, rs, codes es, rfl, S07 _ _ hL, hR.same S07, hlc, okc, fun H8 D8 S8 hD8 => ?_⟩
    have S08 := S07.trans S8
    have hD68 := S8 _ _ (S7 _ _ hD6)
    walk_at "re"
    refine ⟨D6, D8, (flowP (baseL (codes es), codes es) rs).1, rfl, hD68, hD8, by omega, ?_⟩
    have hh8 := S8 _ _ (S7 _ _ (S6 _ _ hh5))
    have hL8 := S08 _ _ hL
    walk_at "re"
    refine rd_neRows hh8 hL8 (hR.same S08) ok ?_
    walk_at "re"
    refine ⟨D6, a, (flowP (baseL (codes es), codes es) rs).1, es, rfl, hD68, S08 _ _ hE, by omega, by rw [cl] at fi; exact fi, fun H9 D9 S9 nD9 hD9 => ?_⟩
    rw [flow_img I _ rs rfl ok] at hD9
    have hP9 := S9 _ _ (S8 _ _ (S7 _ _ (S6 _ _ (S5 _ _ hP4))))
    have hz9 := S9 _ _ (S8 _ _ (S7 _ _ (S6 _ _ (S5 _ _ hz4))))
    walk_at "re"
    refine rd_eqInts hD9 hz9 ?_
    exact q _ (S08.trans S9)
def splaw (K : PySem.W.Frag) : Sp := fun vs H Q _ => ∃ (a : Addr) (ns : List Int), vs = [.ref a] ∧ SqL K H a (ns.map V.int) ∧ ns.length ≤ 63 ∧ ∀ H', Q (.bl true) H'
set_option maxHeartbeats 4000000 in
theorem oklaw (T : Top K mg) {f : Addr} {fd : FuncData} (D : Def K mg "law" slaw ["script"] f fd) : FnOk P w K mg base CX0 9 f fd ["script"] (splaw K) := by
  obtain ⟨f_law_bag, fd_law_bag, D_law_bag⟩ := T.d__law_bag
  have G_law_bag : FnOk P w K mg base CX0 1 f_law_bag fd_law_bag ["script"] (sp_law_bag K) := ok_law_bag T D_law_bag
  obtain ⟨f_law_image, fd_law_image, D_law_image⟩ := T.d__law_image
  have G_law_image : FnOk P w K mg base CX0 2 f_law_image fd_law_image ["bag", "n"] (sp_law_image K) := ok_law_image T D_law_image
  obtain ⟨f_law_twin, fd_law_twin, D_law_twin⟩ := T.d__law_twin
  have G_law_twin : FnOk P w K mg base CX0 2 f_law_twin fd_law_twin ["bag", "image"] (sp_law_twin K) := ok_law_twin T D_law_twin
  obtain ⟨f_law_script, fd_law_script, D_law_script⟩ := T.d__law_script
  have G_law_script : FnOk P w K mg base CX0 4 f_law_script fd_law_script ["bag", "n", "image"] (sp_law_script K) := ok_law_script T D_law_script
  obtain ⟨f_law_draw, fd_law_draw, D_law_draw⟩ := T.d__law_draw
  have G_law_draw : FnOk P w K mg base CX0 1 f_law_draw fd_law_draw ["bag", "many"] (sp_law_draw K) := ok_law_draw T D_law_draw
  obtain ⟨f_law_led, fd_law_led, D_law_led⟩ := T.d__law_led
  have G_law_led : FnOk P w K mg base CX0 4 f_law_led fd_law_led ["rows", "view"] (sp_law_led K) := ok_law_led T D_law_led
  obtain ⟨f_law_joined, fd_law_joined, D_law_joined⟩ := T.d__law_joined
  have G_law_joined : FnOk P w K mg base CX0 7 f_law_joined fd_law_joined ["rows", "cut", "image"] (sp_law_joined K) := ok_law_joined T D_law_joined
  obtain ⟨f_law_same, fd_law_same, D_law_same⟩ := T.d__law_same
  have G_law_same : FnOk P w K mg base CX0 2 f_law_same fd_law_same ["told", "due"] (sp_law_same K) := ok_law_same T D_law_same
  obtain ⟨f_law_runs, fd_law_runs, D_law_runs⟩ := T.d__law_runs
  have G_law_runs : FnOk P w K mg base CX0 8 f_law_runs fd_law_runs ["rows", "image"] (sp_law_runs K) := ok_law_runs T D_law_runs
  obtain ⟨fplain_run, fdplain_run, Dplain_run⟩ := T.d_plain_run
  have Gplain_run : FnOk P w K mg base CX0 7 fplain_run fdplain_run ["script", "image"] (spplain_run K) := okplain_run T Dplain_run
  obtain ⟨fflow, fdflow, Dflow⟩ := T.d_flow
  have Gflow : FnOk P w K mg base CX0 6 fflow fdflow ["script", "view"] (spflow K) := okflow T Dflow
  obtain ⟨f_law_path, fd_law_path, D_law_path⟩ := T.d__law_path
  have G_law_path : FnOk P w K mg base CX0 4 f_law_path fd_law_path ["rows", "image"] (sp_law_path K) := ok_law_path T D_law_path
  refine D.F.ok sclaw (fun vs H Q E h => ?_) (fun cdv A outer s H vs Q E hr h => ?_)
  · obtain ⟨a, ns, rfl, _⟩ := h
    rfl
  · obtain ⟨a, ns, rfl, hS, hl, q⟩ := h
    refine ⟨_, (pss_cons (ps_set (i := 1) sclaw.nd rfl (.inl rfl) (pe_call G_law_bag (hr.mono (by decide)) (by rfl) D_law_bag.g D_law_bag.F.kp D_law_bag.b .nil pass0 (pa_cons (pv 0) pa_nil)))
    (pss_cons (ps_set (i := 2) sclaw.nd rfl (.inl rfl) (pe_op op_add pe_int (pe_call G_law_draw (hr.mono (by decide)) (by rfl) D_law_draw.g D_law_draw.F.kp D_law_draw.b .nil pass0 (pa_cons (pv 1) (pa_cons pe_int pa_nil)))))
    (pss_cons (ps_set (i := 3) sclaw.nd rfl (.inl rfl) (pe_call G_law_image (hr.mono (by decide)) (by rfl) D_law_image.g D_law_image.F.kp D_law_image.b .nil pass0 (pa_cons (pv 1) (pa_cons (pv 2) pa_nil))))
    (pss_cons (ps_set (i := 4) sclaw.nd rfl (.inl rfl) (pe_call G_law_twin (hr.mono (by decide)) (by rfl) D_law_twin.g D_law_twin.F.kp D_law_twin.b .nil pass0 (pa_cons (pv 1) (pa_cons (pv 3) pa_nil))))
    (pss_cons (ps_set (i := 5) sclaw.nd rfl (.inl rfl) (pe_call G_law_script (hr.mono (by decide)) (by rfl) D_law_script.g D_law_script.F.kp D_law_script.b .nil pass0 (pa_cons (pv 1) (pa_cons (pv 2) (pa_cons (pv 3) pa_nil)))))
    (pss_cons (ps_set (i := 6) sclaw.nd rfl (.inl rfl) (pe_call G_law_draw (hr.mono (by decide)) (by rfl) D_law_draw.g D_law_draw.F.kp D_law_draw.b .nil pass0 (pa_cons (pv 1) (pa_cons (pe_op op_add (pe_callB (r := rLenQ K) call_lenQ (by rfl) T.b_len PySem.boot_len (pa_cons (pv 5) pa_nil)) pe_int) pa_nil))))
    (pss_cons (ps_if (PW.pt (pw_or (pt_not (pt_val (pe_call G_law_runs hr (by rfl) D_law_runs.g D_law_runs.F.kp D_law_runs.b .nil pass0 (pa_cons (pv 5) (pa_cons (pv 3) pa_nil))))) (pw_or1 (pt_not (pt_val (pe_call G_law_runs hr (by rfl) D_law_runs.g D_law_runs.F.kp D_law_runs.b .nil pass0 (pa_cons (pv 5) (pa_cons (pv 4) pa_nil)))))))) (pss_one (ps_ret pe_bl)) pss_nil)
    (pss_cons (ps_if (PW.pt (pw_or (pt_not (pt_val (pe_call G_law_runs hr (by rfl) D_law_runs.g D_law_runs.F.kp D_law_runs.b .nil pass0 (pa_cons (pe_slice sl_list (pv 5) po_none (po_some (pv 6))) (pa_cons (pv 3) pa_nil))))) (pw_or1 (pt_not (pt_val (pe_call G_law_runs hr (by rfl) D_law_runs.g D_law_runs.F.kp D_law_runs.b .nil pass0 (pa_cons (pe_slice sl_list (pv 5) (po_some (pv 6)) po_none) (pa_cons (pe_ix (r := rIxL K) ix_list (pe_call G_law_path (hr.mono (by decide)) (by rfl) D_law_path.g D_law_path.F.kp D_law_path.b .nil pass0 (pa_cons (pe_slice sl_list (pv 5) po_none (po_some (pv 6))) (pa_cons (pv 3) pa_nil))) (pe_un un_neg pe_int) (fun _ _ => rfl)) pa_nil)))))))) (pss_one (ps_ret pe_bl)) pss_nil)
    (pss_cons (ps_if (pt_not (pt_val (pe_call G_law_joined (hr.mono (by decide)) (by rfl) D_law_joined.g D_law_joined.F.kp D_law_joined.b .nil pass0 (pa_cons (pv 5) (pa_cons (pv 6) (pa_cons (pv 3) pa_nil)))))) (pss_one (ps_ret pe_bl)) pss_nil)
    (pss_cons (ps_set (i := 7) sclaw.nd rfl (.inl rfl) (pe_callTy (r := rTupQ K) call_tupQ (by rfl) T.b_tuple (by decide +kernel) (pa_cons (pe_listRg rfl (by rfl) T.b_list (prg_1 (by rfl) T.b_range (pv 2))) pa_nil)))
    (pss_cons (ps_set (i := 8) sclaw.nd rfl (.inl rfl) (pe_call G_law_led (hr.mono (by decide)) (by rfl) D_law_led.g D_law_led.F.kp D_law_led.b .nil pass0 (pa_cons (pv 5) (pa_cons (pe_op op_mulZ pe_str (pv 2)) pa_nil))))
    (pss_one (ps_ret (pe_and (pe_call G_law_same (hr.mono (by decide)) (by rfl) D_law_same.g D_law_same.F.kp D_law_same.b .nil pass0 (pa_cons (pe_call Gplain_run (hr.mono (by decide)) (by rfl) Dplain_run.g Dplain_run.F.kp Dplain_run.b .nil pass0 (pa_cons (pe_callTy (r := rLstQ K) call_lstQ (by rfl) T.b_list (by decide +kernel) (pa_cons (pv 5) pa_nil)) (pa_cons (pv 7) pa_nil))) (pa_cons (pv 8) pa_nil))) (pe_one (pe_call G_law_same (hr.mono (by decide)) (by rfl) D_law_same.g D_law_same.F.kp D_law_same.b .nil pass0 (pa_cons (pe_call Gflow (hr.mono (by decide)) (by rfl) Dflow.g Dflow.F.kp Dflow.b .nil pass0 (pa_cons (pe_callTy (r := rLstQ K) call_lstQ (by rfl) T.b_list (by decide +kernel) (pa_cons (pv 5) pa_nil)) (pa_cons (pe_op op_mulZ pe_str (pv 2)) pa_nil))) (pa_cons (pv 8) pa_nil)))))))))))))))))), ?_⟩
    walk_at "re"
    refine ⟨a, ns, rfl, hS, hl, fun H1 c b ms B1 _ => ?_⟩
    walk_at "re"
    refine ⟨c, b, ms, 12, rfl, B1, by decide, by decide, fun H2 d w2 d0 d12 => ?_⟩
    obtain ⟨n, hn⟩ : ∃ n : Nat, 1 + d = (n : Int) := ⟨(1 + d).toNat, by omega⟩
    have n1 : 1 ≤ n := by omega
    have n12 : n ≤ 12 := by omega
    have hrg : -100000 ≤ (n : Int) ∧ (n : Int) ≤ 100000 := by omega
    walk_at "re"
    rw [hn]
    walk_at "re"
    refine ⟨c, b, ms, n, rfl, w2.b1, n1, n12, fun H3 A es w3 nA hA le I => ?_⟩
    walk_at "re"
    refine ⟨c, b, A, ms, es, rfl, w3.b1, hA, I, fun H4 A2 fs w4 nA2 hA2 le2 I2 ec => ?_⟩
    walk_at "re"
    refine ⟨c, b, A, ms, es, n, rfl, w4.b1, n1, n12, w4.tup hA, I, le, fun H5 L ps rs w5 nL hL tR l60 ok => ?_⟩
    have hA5 := w5.tup (w4.tup hA)
    have hA25 := w5.tup hA2
    have pl : ps.length = rs.length := tR.1.trans (rows_len rs)
    walk_at "re"
    refine ⟨c, b, ms, _, rfl, w5.b1, by rw [List.length_map]; omega, by rw [List.length_map]; omega, fun H6 k0 w6 k00 k01 => ?_⟩
    obtain ⟨k, rfl⟩ : ∃ k : Nat, k0 = (k : Int) := ⟨k0.toNat, by omega⟩
    have hk : k ≤ rs.length := by rw [List.length_map] at k01; omega
    have hkp : k ≤ ps.length := by omega
    have nLb : L ≠ b := w4.b1.ne nL
    have hL6 := w6.lst nLb hL
    have tR6 := tR.wd w6
    have hA6 := w6.tup hA5
    have hA26 := w6.tup hA25
    have ok1 : ∀ r ∈ rs, LnOk es.length r := by rw [le]; exact ok
    have ok2 : ∀ r ∈ rs, LnOk fs.length r := by rw [le2, le]; exact ok
    have ⟨k1, k2, k3, k4⟩ := runP_ok I _ (rs.take k) rfl (take_ok ok1)
    walk_at "re"
    refine ⟨L, A, ps, rs, es, rfl, hL6, tR6, hA6, I, l60, ok1, fun H7 S7 => ?_⟩
    walk_at "re"
    refine ⟨L, A2, ps, rs, fs, rfl, S7 _ _ hL6, tR6.same S7, S7 _ _ hA26, I2, l60, ok2, fun H8 S8 => ?_⟩
    have S68 := S7.trans S8
    have hL8 := S68 _ _ hL6
    walk_at "re"
    refine slTo hL8 hkp fun H9 l9 S9 nl9 hl9 => ?_
    have S69 := S68.trans S9
    walk_at "re"
    refine ⟨l9, A, _, rs.take k, es, rfl, hl9, rowsTake (tR6.same S69) k, S69 _ _ hA6, I, by rw [List.length_take]; omega, take_ok ok1, fun H10 S10 => ?_⟩
    have S610 := S69.trans S10
    have hL10 := S610 _ _ hL6
    walk_at "re"
    refine slFrom hL10 hkp fun H11 l11 S11 nl11 hl11 => ?_
    have S611 := S610.trans S11
    have hL11 := S611 _ _ hL6
    walk_at "re"
    refine slTo hL11 hkp fun H12 l12 S12 nl12 hl12 => ?_
    have S612 := S611.trans S12
    walk_at "re"
    refine ⟨l12, A, _, rs.take k, es, rfl, hl12, rowsTake (tR6.same S612) k, S612 _ _ hA6, I, by rw [List.length_take]; omega, take_ok ok1, fun H13 P qs S13 nP hP tq => ?_⟩
    have S613 := S612.trans S13
    obtain ⟨init, z, eqs, hz⟩ := tq.last (imgs_last k3)
    have el : atI (qs.map V.ref) (-1) = some (.ref z) := by
      rw [eqs, List.map_append]
      exact atI_last _ _
    walk_at "re"
    refine ⟨l11, z, _, rs.drop k, _, rfl, S13 _ _ (S12 _ _ hl11), rowsDrop (tR6.same S613) k, hz, k1, by rw [List.length_drop]; omega, by rw [k2]; exact drop_ok ok1, fun H14 S14 => ?_⟩
    have S614 := S613.trans S14
    walk_at "re"
    refine ⟨L, A, ps, rs, es, k, rfl, S614 _ _ hL6, tR6.same S614, S614 _ _ hA6, I, l60, ok1, hk, fun H15 S15 => ?_⟩
    have S615 := S614.trans S15
    walk_at "re"
    refine rd_lstRg ?_
    refine rd_tRg1 ?_
    walk_at "re"
    refine ⟨RgOk.of_le (by omega) (by omega) (by omega) (by omega), fun lr nlr => ?_⟩
    rw [rg_own]
    obtain ⟨H16, eH16, S16, hlr⟩ := new_gen (.lst ((own n).map V.int)) nlr
    rw [← eH16]
    walk_at "re"
    intro O nO
    obtain ⟨H17, eH17, S17, hO⟩ := new_gen (.tup ((own n).map V.int)) nO
    rw [← eH17]
    have S617 := (S615.trans S16).trans S17
    have ln : (List.replicate n 48).length = n := List.length_replicate
    have eo := own_codes n12
    have oI := own_img n1 n12
    have oko : ∀ r ∈ rs, LnOk (own n).length r := by rw [own_len]; exact ok
    have okz : ∀ r ∈ rs, LnOk (List.replicate n 48).length r := by rw [ln]; exact ok
    have lz : (List.replicate n 48).length ≤ 12 := by rw [ln]; exact n12
    have ⟨fi, _⟩ := flow_inv (cs := List.replicate n 48) _ rs rfl okz
    have ⟨f1, f2⟩ := flowP_ok (cs := List.replicate n 48) _ rs rfl
    have er : (runP ([own n], own n) rs).2 = (flowP (baseL (List.replicate n 48), List.replicate n 48) rs).1 := by
      rw [← flow_img oI _ rs rfl oko, eo]
      rw [ln] at fi
      exact car_own fi
    walk_at "re"
    refine rd_mulZ (c := 48) n1 n12 ?_
    walk_at "re"
    refine ⟨L, ps, rs, List.replicate n 48, rfl, S617 _ _ hL6, tR6.same S617, lz, okz, fun H18 D18 S18 hD18 => ?_⟩
    have S618 := S617.trans S18
    have hL18 := S618 _ _ hL6
    walk_at "re"
    intro l19 nl19
    obtain ⟨H19, eH19, S19, hl19⟩ := new_gen (.lst (ps.map V.ref)) nl19
    rw [← eH19]
    have S619 := S618.trans S19
    walk_at "re"
    refine ⟨l19, O, ps, rs, own n, rfl, hl19, tR6.same S619, S19 _ _ (S18 _ _ hO), oI, l60, oko, fun H20 D20 S20 hD20 => ?_⟩
    rw [er] at hD20
    have S620 := S619.trans S20
    have hD18' := S20 _ _ (S19 _ _ hD18)
    walk_at "re"
    refine ⟨D20, D18, _, rfl, hD20, hD18', by rw [f1, ln]; omega, ?_⟩
    have hL20 := S620 _ _ hL6
    walk_at "re"
    intro l21 nl21
    obtain ⟨H21, eH21, S21, hl21⟩ := new_gen (.lst (ps.map V.ref)) nl21
    rw [← eH21]
    have S621 := S620.trans S21
    walk_at "re"
    refine rd_mulZ (c := 48) n1 n12 ?_
    walk_at "re"
    refine ⟨l21, ps, rs, List.replicate n 48, rfl, hl21, tR6.same S621, lz, okz, fun H22 D22 S22 nD22 hD22 => ?_⟩
    have hD182 := S22 _ _ (S21 _ _ hD18')
    walk_at "re"
    refine ⟨D22, D18, _, rfl, hD22, hD182, by rw [f1, ln]; omega, ?_⟩
    exact q _
end
theorem all_mk {l : PySem.W.OpenLaw} {w : World} {K : PySem.W.Frag} {h : Heap} {mg : Str → Option Value} {fa : Addr} (X : K.In h) (G : h.Ns mainGlobals mg) (hfa : mg "law" = some (.ref fa))
    {f0 : Addr} {od0 an0 : Option Addr} {sl0 : Array (Option Value)} {oc0 kV0 dc0 pm0 cd0 ct0 : Value}
    (a0 : PySem.W.nsIn K mainGlobals "check_image" = some (some (.ref f0))) (l0 : K.lookup f0 = some ⟨oc0, od0, .func (PySem.W.fnOf "check_image" "check_image" (defArgs scheck_image) (defBody scheck_image) (defScope scheck_image) .none kV0 dc0 pm0 an0 cd0 ct0), sl0⟩) (c0 : PySem.W.codeIn K cd0 "check_image" = true) (k0 : PySem.W.keepIn K (.ref f0) = true)
    {f1 : Addr} {od1 an1 : Option Addr} {sl1 : Array (Option Value)} {oc1 kV1 dc1 pm1 cd1 ct1 : Value}
    (a1 : PySem.W.nsIn K mainGlobals "look" = some (some (.ref f1))) (l1 : K.lookup f1 = some ⟨oc1, od1, .func (PySem.W.fnOf "look" "look" (defArgs slook) (defBody slook) (defScope slook) .none kV1 dc1 pm1 an1 cd1 ct1), sl1⟩) (c1 : PySem.W.codeIn K cd1 "look" = true) (k1 : PySem.W.keepIn K (.ref f1) = true)
    {f2 : Addr} {od2 an2 : Option Addr} {sl2 : Array (Option Value)} {oc2 kV2 dc2 pm2 cd2 ct2 : Value}
    (a2 : PySem.W.nsIn K mainGlobals "_sign" = some (some (.ref f2))) (l2 : K.lookup f2 = some ⟨oc2, od2, .func (PySem.W.fnOf "_sign" "_sign" (defArgs s_sign) (defBody s_sign) (defScope s_sign) .none kV2 dc2 pm2 an2 cd2 ct2), sl2⟩) (c2 : PySem.W.codeIn K cd2 "_sign" = true) (k2 : PySem.W.keepIn K (.ref f2) = true)
    {f3 : Addr} {od3 an3 : Option Addr} {sl3 : Array (Option Value)} {oc3 kV3 dc3 pm3 cd3 ct3 : Value}
    (a3 : PySem.W.nsIn K mainGlobals "check_script" = some (some (.ref f3))) (l3 : K.lookup f3 = some ⟨oc3, od3, .func (PySem.W.fnOf "check_script" "check_script" (defArgs scheck_script) (defBody scheck_script) (defScope scheck_script) .none kV3 dc3 pm3 an3 cd3 ct3), sl3⟩) (c3 : PySem.W.codeIn K cd3 "check_script" = true) (k3 : PySem.W.keepIn K (.ref f3) = true)
    {f4 : Addr} {od4 an4 : Option Addr} {sl4 : Array (Option Value)} {oc4 kV4 dc4 pm4 cd4 ct4 : Value}
    (a4 : PySem.W.nsIn K mainGlobals "has_guard_signs" = some (some (.ref f4))) (l4 : K.lookup f4 = some ⟨oc4, od4, .func (PySem.W.fnOf "has_guard_signs" "has_guard_signs" (defArgs shas_guard_signs) (defBody shas_guard_signs) (defScope shas_guard_signs) .none kV4 dc4 pm4 an4 cd4 ct4), sl4⟩) (c4 : PySem.W.codeIn K cd4 "has_guard_signs" = true) (k4 : PySem.W.keepIn K (.ref f4) = true)
    {f5 : Addr} {od5 an5 : Option Addr} {sl5 : Array (Option Value)} {oc5 kV5 dc5 pm5 cd5 ct5 : Value}
    (a5 : PySem.W.nsIn K mainGlobals "matches" = some (some (.ref f5))) (l5 : K.lookup f5 = some ⟨oc5, od5, .func (PySem.W.fnOf "matches" "matches" (defArgs smatches) (defBody smatches) (defScope smatches) .none kV5 dc5 pm5 an5 cd5 ct5), sl5⟩) (c5 : PySem.W.codeIn K cd5 "matches" = true) (k5 : PySem.W.keepIn K (.ref f5) = true)
    {f6 : Addr} {od6 an6 : Option Addr} {sl6 : Array (Option Value)} {oc6 kV6 dc6 pm6 cd6 ct6 : Value}
    (a6 : PySem.W.nsIn K mainGlobals "fires" = some (some (.ref f6))) (l6 : K.lookup f6 = some ⟨oc6, od6, .func (PySem.W.fnOf "fires" "fires" (defArgs sfires) (defBody sfires) (defScope sfires) .none kV6 dc6 pm6 an6 cd6 ct6), sl6⟩) (c6 : PySem.W.codeIn K cd6 "fires" = true) (k6 : PySem.W.keepIn K (.ref f6) = true)
    {f7 : Addr} {od7 an7 : Option Addr} {sl7 : Array (Option Value)} {oc7 kV7 dc7 pm7 cd7 ct7 : Value}
    (a7 : PySem.W.nsIn K mainGlobals "sources" = some (some (.ref f7))) (l7 : K.lookup f7 = some ⟨oc7, od7, .func (PySem.W.fnOf "sources" "sources" (defArgs ssources) (defBody ssources) (defScope ssources) .none kV7 dc7 pm7 an7 cd7 ct7), sl7⟩) (c7 : PySem.W.codeIn K cd7 "sources" = true) (k7 : PySem.W.keepIn K (.ref f7) = true)
    {f8 : Addr} {od8 an8 : Option Addr} {sl8 : Array (Option Value)} {oc8 kV8 dc8 pm8 cd8 ct8 : Value}
    (a8 : PySem.W.nsIn K mainGlobals "kept_blocks" = some (some (.ref f8))) (l8 : K.lookup f8 = some ⟨oc8, od8, .func (PySem.W.fnOf "kept_blocks" "kept_blocks" (defArgs skept_blocks) (defBody skept_blocks) (defScope skept_blocks) .none kV8 dc8 pm8 an8 cd8 ct8), sl8⟩) (c8 : PySem.W.codeIn K cd8 "kept_blocks" = true) (k8 : PySem.W.keepIn K (.ref f8) = true)
    {f9 : Addr} {od9 an9 : Option Addr} {sl9 : Array (Option Value)} {oc9 kV9 dc9 pm9 cd9 ct9 : Value}
    (a9 : PySem.W.nsIn K mainGlobals "apply_line" = some (some (.ref f9))) (l9 : K.lookup f9 = some ⟨oc9, od9, .func (PySem.W.fnOf "apply_line" "apply_line" (defArgs sapply_line) (defBody sapply_line) (defScope sapply_line) .none kV9 dc9 pm9 an9 cd9 ct9), sl9⟩) (c9 : PySem.W.codeIn K cd9 "apply_line" = true) (k9 : PySem.W.keepIn K (.ref f9) = true)
    {f10 : Addr} {od10 an10 : Option Addr} {sl10 : Array (Option Value)} {oc10 kV10 dc10 pm10 cd10 ct10 : Value}
    (a10 : PySem.W.nsIn K mainGlobals "look_after" = some (some (.ref f10))) (l10 : K.lookup f10 = some ⟨oc10, od10, .func (PySem.W.fnOf "look_after" "look_after" (defArgs slook_after) (defBody slook_after) (defScope slook_after) .none kV10 dc10 pm10 an10 cd10 ct10), sl10⟩) (c10 : PySem.W.codeIn K cd10 "look_after" = true) (k10 : PySem.W.keepIn K (.ref f10) = true)
    {f11 : Addr} {od11 an11 : Option Addr} {sl11 : Array (Option Value)} {oc11 kV11 dc11 pm11 cd11 ct11 : Value}
    (a11 : PySem.W.nsIn K mainGlobals "_is_line" = some (some (.ref f11))) (l11 : K.lookup f11 = some ⟨oc11, od11, .func (PySem.W.fnOf "_is_line" "_is_line" (defArgs s_is_line) (defBody s_is_line) (defScope s_is_line) .none kV11 dc11 pm11 an11 cd11 ct11), sl11⟩) (c11 : PySem.W.codeIn K cd11 "_is_line" = true) (k11 : PySem.W.keepIn K (.ref f11) = true)
    {f12 : Addr} {od12 an12 : Option Addr} {sl12 : Array (Option Value)} {oc12 kV12 dc12 pm12 cd12 ct12 : Value}
    (a12 : PySem.W.nsIn K mainGlobals "_is_block" = some (some (.ref f12))) (l12 : K.lookup f12 = some ⟨oc12, od12, .func (PySem.W.fnOf "_is_block" "_is_block" (defArgs s_is_block) (defBody s_is_block) (defScope s_is_block) .none kV12 dc12 pm12 an12 cd12 ct12), sl12⟩) (c12 : PySem.W.codeIn K cd12 "_is_block" = true) (k12 : PySem.W.keepIn K (.ref f12) = true)
    {f13 : Addr} {od13 an13 : Option Addr} {sl13 : Array (Option Value)} {oc13 kV13 dc13 pm13 cd13 ct13 : Value}
    (a13 : PySem.W.nsIn K mainGlobals "_is_source" = some (some (.ref f13))) (l13 : K.lookup f13 = some ⟨oc13, od13, .func (PySem.W.fnOf "_is_source" "_is_source" (defArgs s_is_source) (defBody s_is_source) (defScope s_is_source) .none kV13 dc13 pm13 an13 cd13 ct13), sl13⟩) (c13 : PySem.W.codeIn K cd13 "_is_source" = true) (k13 : PySem.W.keepIn K (.ref f13) = true)
    {f14 : Addr} {od14 an14 : Option Addr} {sl14 : Array (Option Value)} {oc14 kV14 dc14 pm14 cd14 ct14 : Value}
    (a14 : PySem.W.nsIn K mainGlobals "_is_guard" = some (some (.ref f14))) (l14 : K.lookup f14 = some ⟨oc14, od14, .func (PySem.W.fnOf "_is_guard" "_is_guard" (defArgs s_is_guard) (defBody s_is_guard) (defScope s_is_guard) .none kV14 dc14 pm14 an14 cd14 ct14), sl14⟩) (c14 : PySem.W.codeIn K cd14 "_is_guard" = true) (k14 : PySem.W.keepIn K (.ref f14) = true)
    {f15 : Addr} {od15 an15 : Option Addr} {sl15 : Array (Option Value)} {oc15 kV15 dc15 pm15 cd15 ct15 : Value}
    (a15 : PySem.W.nsIn K mainGlobals "_fits" = some (some (.ref f15))) (l15 : K.lookup f15 = some ⟨oc15, od15, .func (PySem.W.fnOf "_fits" "_fits" (defArgs s_fits) (defBody s_fits) (defScope s_fits) .none kV15 dc15 pm15 an15 cd15 ct15), sl15⟩) (c15 : PySem.W.codeIn K cd15 "_fits" = true) (k15 : PySem.W.keepIn K (.ref f15) = true)
    {f16 : Addr} {od16 an16 : Option Addr} {sl16 : Array (Option Value)} {oc16 kV16 dc16 pm16 cd16 ct16 : Value}
    (a16 : PySem.W.nsIn K mainGlobals "images" = some (some (.ref f16))) (l16 : K.lookup f16 = some ⟨oc16, od16, .func (PySem.W.fnOf "images" "images" (defArgs simages) (defBody simages) (defScope simages) .none kV16 dc16 pm16 an16 cd16 ct16), sl16⟩) (c16 : PySem.W.codeIn K cd16 "images" = true) (k16 : PySem.W.keepIn K (.ref f16) = true)
    {f17 : Addr} {od17 an17 : Option Addr} {sl17 : Array (Option Value)} {oc17 kV17 dc17 pm17 cd17 ct17 : Value}
    (a17 : PySem.W.nsIn K mainGlobals "plain_run" = some (some (.ref f17))) (l17 : K.lookup f17 = some ⟨oc17, od17, .func (PySem.W.fnOf "plain_run" "plain_run" (defArgs splain_run) (defBody splain_run) (defScope splain_run) .none kV17 dc17 pm17 an17 cd17 ct17), sl17⟩) (c17 : PySem.W.codeIn K cd17 "plain_run" = true) (k17 : PySem.W.keepIn K (.ref f17) = true)
    {f18 : Addr} {od18 an18 : Option Addr} {sl18 : Array (Option Value)} {oc18 kV18 dc18 pm18 cd18 ct18 : Value}
    (a18 : PySem.W.nsIn K mainGlobals "flow" = some (some (.ref f18))) (l18 : K.lookup f18 = some ⟨oc18, od18, .func (PySem.W.fnOf "flow" "flow" (defArgs sflow) (defBody sflow) (defScope sflow) .none kV18 dc18 pm18 an18 cd18 ct18), sl18⟩) (c18 : PySem.W.codeIn K cd18 "flow" = true) (k18 : PySem.W.keepIn K (.ref f18) = true)
    {f19 : Addr} {od19 an19 : Option Addr} {sl19 : Array (Option Value)} {oc19 kV19 dc19 pm19 cd19 ct19 : Value}
    (a19 : PySem.W.nsIn K mainGlobals "_law_bag" = some (some (.ref f19))) (l19 : K.lookup f19 = some ⟨oc19, od19, .func (PySem.W.fnOf "_law_bag" "_law_bag" (defArgs s_law_bag) (defBody s_law_bag) (defScope s_law_bag) .none kV19 dc19 pm19 an19 cd19 ct19), sl19⟩) (c19 : PySem.W.codeIn K cd19 "_law_bag" = true) (k19 : PySem.W.keepIn K (.ref f19) = true)
    {f20 : Addr} {od20 an20 : Option Addr} {sl20 : Array (Option Value)} {oc20 kV20 dc20 pm20 cd20 ct20 : Value}
    (a20 : PySem.W.nsIn K mainGlobals "_law_draw" = some (some (.ref f20))) (l20 : K.lookup f20 = some ⟨oc20, od20, .func (PySem.W.fnOf "_law_draw" "_law_draw" (defArgs s_law_draw) (defBody s_law_draw) (defScope s_law_draw) .none kV20 dc20 pm20 an20 cd20 ct20), sl20⟩) (c20 : PySem.W.codeIn K cd20 "_law_draw" = true) (k20 : PySem.W.keepIn K (.ref f20) = true)
    {f21 : Addr} {od21 an21 : Option Addr} {sl21 : Array (Option Value)} {oc21 kV21 dc21 pm21 cd21 ct21 : Value}
    (a21 : PySem.W.nsIn K mainGlobals "_law_image" = some (some (.ref f21))) (l21 : K.lookup f21 = some ⟨oc21, od21, .func (PySem.W.fnOf "_law_image" "_law_image" (defArgs s_law_image) (defBody s_law_image) (defScope s_law_image) .none kV21 dc21 pm21 an21 cd21 ct21), sl21⟩) (c21 : PySem.W.codeIn K cd21 "_law_image" = true) (k21 : PySem.W.keepIn K (.ref f21) = true)
    {f22 : Addr} {od22 an22 : Option Addr} {sl22 : Array (Option Value)} {oc22 kV22 dc22 pm22 cd22 ct22 : Value}
    (a22 : PySem.W.nsIn K mainGlobals "_law_twin" = some (some (.ref f22))) (l22 : K.lookup f22 = some ⟨oc22, od22, .func (PySem.W.fnOf "_law_twin" "_law_twin" (defArgs s_law_twin) (defBody s_law_twin) (defScope s_law_twin) .none kV22 dc22 pm22 an22 cd22 ct22), sl22⟩) (c22 : PySem.W.codeIn K cd22 "_law_twin" = true) (k22 : PySem.W.keepIn K (.ref f22) = true)
    {f23 : Addr} {od23 an23 : Option Addr} {sl23 : Array (Option Value)} {oc23 kV23 dc23 pm23 cd23 ct23 : Value}
    (a23 : PySem.W.nsIn K mainGlobals "_law_view" = some (some (.ref f23))) (l23 : K.lookup f23 = some ⟨oc23, od23, .func (PySem.W.fnOf "_law_view" "_law_view" (defArgs s_law_view) (defBody s_law_view) (defScope s_law_view) .none kV23 dc23 pm23 an23 cd23 ct23), sl23⟩) (c23 : PySem.W.codeIn K cd23 "_law_view" = true) (k23 : PySem.W.keepIn K (.ref f23) = true)
    {f24 : Addr} {od24 an24 : Option Addr} {sl24 : Array (Option Value)} {oc24 kV24 dc24 pm24 cd24 ct24 : Value}
    (a24 : PySem.W.nsIn K mainGlobals "_law_guard" = some (some (.ref f24))) (l24 : K.lookup f24 = some ⟨oc24, od24, .func (PySem.W.fnOf "_law_guard" "_law_guard" (defArgs s_law_guard) (defBody s_law_guard) (defScope s_law_guard) .none kV24 dc24 pm24 an24 cd24 ct24), sl24⟩) (c24 : PySem.W.codeIn K cd24 "_law_guard" = true) (k24 : PySem.W.keepIn K (.ref f24) = true)
    {f25 : Addr} {od25 an25 : Option Addr} {sl25 : Array (Option Value)} {oc25 kV25 dc25 pm25 cd25 ct25 : Value}
    (a25 : PySem.W.nsIn K mainGlobals "_law_row" = some (some (.ref f25))) (l25 : K.lookup f25 = some ⟨oc25, od25, .func (PySem.W.fnOf "_law_row" "_law_row" (defArgs s_law_row) (defBody s_law_row) (defScope s_law_row) .none kV25 dc25 pm25 an25 cd25 ct25), sl25⟩) (c25 : PySem.W.codeIn K cd25 "_law_row" = true) (k25 : PySem.W.keepIn K (.ref f25) = true)
    {f26 : Addr} {od26 an26 : Option Addr} {sl26 : Array (Option Value)} {oc26 kV26 dc26 pm26 cd26 ct26 : Value}
    (a26 : PySem.W.nsIn K mainGlobals "_law_fits" = some (some (.ref f26))) (l26 : K.lookup f26 = some ⟨oc26, od26, .func (PySem.W.fnOf "_law_fits" "_law_fits" (defArgs s_law_fits) (defBody s_law_fits) (defScope s_law_fits) .none kV26 dc26 pm26 an26 cd26 ct26), sl26⟩) (c26 : PySem.W.codeIn K cd26 "_law_fits" = true) (k26 : PySem.W.keepIn K (.ref f26) = true)
    {f27 : Addr} {od27 an27 : Option Addr} {sl27 : Array (Option Value)} {oc27 kV27 dc27 pm27 cd27 ct27 : Value}
    (a27 : PySem.W.nsIn K mainGlobals "_law_works" = some (some (.ref f27))) (l27 : K.lookup f27 = some ⟨oc27, od27, .func (PySem.W.fnOf "_law_works" "_law_works" (defArgs s_law_works) (defBody s_law_works) (defScope s_law_works) .none kV27 dc27 pm27 an27 cd27 ct27), sl27⟩) (c27 : PySem.W.codeIn K cd27 "_law_works" = true) (k27 : PySem.W.keepIn K (.ref f27) = true)
    {f28 : Addr} {od28 an28 : Option Addr} {sl28 : Array (Option Value)} {oc28 kV28 dc28 pm28 cd28 ct28 : Value}
    (a28 : PySem.W.nsIn K mainGlobals "_law_origins" = some (some (.ref f28))) (l28 : K.lookup f28 = some ⟨oc28, od28, .func (PySem.W.fnOf "_law_origins" "_law_origins" (defArgs s_law_origins) (defBody s_law_origins) (defScope s_law_origins) .none kV28 dc28 pm28 an28 cd28 ct28), sl28⟩) (c28 : PySem.W.codeIn K cd28 "_law_origins" = true) (k28 : PySem.W.keepIn K (.ref f28) = true)
    {f29 : Addr} {od29 an29 : Option Addr} {sl29 : Array (Option Value)} {oc29 kV29 dc29 pm29 cd29 ct29 : Value}
    (a29 : PySem.W.nsIn K mainGlobals "_law_carried" = some (some (.ref f29))) (l29 : K.lookup f29 = some ⟨oc29, od29, .func (PySem.W.fnOf "_law_carried" "_law_carried" (defArgs s_law_carried) (defBody s_law_carried) (defScope s_law_carried) .none kV29 dc29 pm29 an29 cd29 ct29), sl29⟩) (c29 : PySem.W.codeIn K cd29 "_law_carried" = true) (k29 : PySem.W.keepIn K (.ref f29) = true)
    {f30 : Addr} {od30 an30 : Option Addr} {sl30 : Array (Option Value)} {oc30 kV30 dc30 pm30 cd30 ct30 : Value}
    (a30 : PySem.W.nsIn K mainGlobals "_law_is_whole" = some (some (.ref f30))) (l30 : K.lookup f30 = some ⟨oc30, od30, .func (PySem.W.fnOf "_law_is_whole" "_law_is_whole" (defArgs s_law_is_whole) (defBody s_law_is_whole) (defScope s_law_is_whole) .none kV30 dc30 pm30 an30 cd30 ct30), sl30⟩) (c30 : PySem.W.codeIn K cd30 "_law_is_whole" = true) (k30 : PySem.W.keepIn K (.ref f30) = true)
    {f31 : Addr} {od31 an31 : Option Addr} {sl31 : Array (Option Value)} {oc31 kV31 dc31 pm31 cd31 ct31 : Value}
    (a31 : PySem.W.nsIn K mainGlobals "_law_same" = some (some (.ref f31))) (l31 : K.lookup f31 = some ⟨oc31, od31, .func (PySem.W.fnOf "_law_same" "_law_same" (defArgs s_law_same) (defBody s_law_same) (defScope s_law_same) .none kV31 dc31 pm31 an31 cd31 ct31), sl31⟩) (c31 : PySem.W.codeIn K cd31 "_law_same" = true) (k31 : PySem.W.keepIn K (.ref f31) = true)
    {f32 : Addr} {od32 an32 : Option Addr} {sl32 : Array (Option Value)} {oc32 kV32 dc32 pm32 cd32 ct32 : Value}
    (a32 : PySem.W.nsIn K mainGlobals "_law_same_list" = some (some (.ref f32))) (l32 : K.lookup f32 = some ⟨oc32, od32, .func (PySem.W.fnOf "_law_same_list" "_law_same_list" (defArgs s_law_same_list) (defBody s_law_same_list) (defScope s_law_same_list) .none kV32 dc32 pm32 an32 cd32 ct32), sl32⟩) (c32 : PySem.W.codeIn K cd32 "_law_same_list" = true) (k32 : PySem.W.keepIn K (.ref f32) = true)
    {f33 : Addr} {od33 an33 : Option Addr} {sl33 : Array (Option Value)} {oc33 kV33 dc33 pm33 cd33 ct33 : Value}
    (a33 : PySem.W.nsIn K mainGlobals "_law_script" = some (some (.ref f33))) (l33 : K.lookup f33 = some ⟨oc33, od33, .func (PySem.W.fnOf "_law_script" "_law_script" (defArgs s_law_script) (defBody s_law_script) (defScope s_law_script) .none kV33 dc33 pm33 an33 cd33 ct33), sl33⟩) (c33 : PySem.W.codeIn K cd33 "_law_script" = true) (k33 : PySem.W.keepIn K (.ref f33) = true)
    {f34 : Addr} {od34 an34 : Option Addr} {sl34 : Array (Option Value)} {oc34 kV34 dc34 pm34 cd34 ct34 : Value}
    (a34 : PySem.W.nsIn K mainGlobals "_law_path" = some (some (.ref f34))) (l34 : K.lookup f34 = some ⟨oc34, od34, .func (PySem.W.fnOf "_law_path" "_law_path" (defArgs s_law_path) (defBody s_law_path) (defScope s_law_path) .none kV34 dc34 pm34 an34 cd34 ct34), sl34⟩) (c34 : PySem.W.codeIn K cd34 "_law_path" = true) (k34 : PySem.W.keepIn K (.ref f34) = true)
    {f35 : Addr} {od35 an35 : Option Addr} {sl35 : Array (Option Value)} {oc35 kV35 dc35 pm35 cd35 ct35 : Value}
    (a35 : PySem.W.nsIn K mainGlobals "_law_led" = some (some (.ref f35))) (l35 : K.lookup f35 = some ⟨oc35, od35, .func (PySem.W.fnOf "_law_led" "_law_led" (defArgs s_law_led) (defBody s_law_led) (defScope s_law_led) .none kV35 dc35 pm35 an35 cd35 ct35), sl35⟩) (c35 : PySem.W.codeIn K cd35 "_law_led" = true) (k35 : PySem.W.keepIn K (.ref f35) = true)
    {f36 : Addr} {od36 an36 : Option Addr} {sl36 : Array (Option Value)} {oc36 kV36 dc36 pm36 cd36 ct36 : Value}
    (a36 : PySem.W.nsIn K mainGlobals "_law_runs" = some (some (.ref f36))) (l36 : K.lookup f36 = some ⟨oc36, od36, .func (PySem.W.fnOf "_law_runs" "_law_runs" (defArgs s_law_runs) (defBody s_law_runs) (defScope s_law_runs) .none kV36 dc36 pm36 an36 cd36 ct36), sl36⟩) (c36 : PySem.W.codeIn K cd36 "_law_runs" = true) (k36 : PySem.W.keepIn K (.ref f36) = true)
    {f37 : Addr} {od37 an37 : Option Addr} {sl37 : Array (Option Value)} {oc37 kV37 dc37 pm37 cd37 ct37 : Value}
    (a37 : PySem.W.nsIn K mainGlobals "_law_joined" = some (some (.ref f37))) (l37 : K.lookup f37 = some ⟨oc37, od37, .func (PySem.W.fnOf "_law_joined" "_law_joined" (defArgs s_law_joined) (defBody s_law_joined) (defScope s_law_joined) .none kV37 dc37 pm37 an37 cd37 ct37), sl37⟩) (c37 : PySem.W.codeIn K cd37 "_law_joined" = true) (k37 : PySem.W.keepIn K (.ref f37) = true)
    {f38 : Addr} {od38 an38 : Option Addr} {sl38 : Array (Option Value)} {oc38 kV38 dc38 pm38 cd38 ct38 : Value}
    (a38 : PySem.W.nsIn K mainGlobals "law" = some (some (.ref f38))) (l38 : K.lookup f38 = some ⟨oc38, od38, .func (PySem.W.fnOf "law" "law" (defArgs slaw) (defBody slaw) (defScope slaw) .none kV38 dc38 pm38 an38 cd38 ct38), sl38⟩) (c38 : PySem.W.codeIn K cd38 "law" = true) (k38 : PySem.W.keepIn K (.ref f38) = true)
    (z0 : PySem.W.nsIn K mainGlobals "abs" = some none)
    (z1 : PySem.W.nsIn K mainGlobals "all" = some none)
    (z2 : PySem.W.nsIn K mainGlobals "bool" = some none)
    (z3 : PySem.W.nsIn K mainGlobals "enumerate" = some none)
    (z4 : PySem.W.nsIn K mainGlobals "int" = some none)
    (z5 : PySem.W.nsIn K mainGlobals "isinstance" = some none)
    (z6 : PySem.W.nsIn K mainGlobals "len" = some none)
    (z7 : PySem.W.nsIn K mainGlobals "list" = some none)
    (z8 : PySem.W.nsIn K mainGlobals "range" = some none)
    (z9 : PySem.W.nsIn K mainGlobals "str" = some none)
    (z10 : PySem.W.nsIn K mainGlobals "tuple" = some none)
    (z11 : PySem.W.nsIn K mainGlobals "zip" = some none)
    {t0 : Tok} (y0 : PySem.W.nsIn K mainGlobals "EMPTY" = some (some (.int (-1) t0)))
    {t1 : Tok} (y1 : PySem.W.nsIn K mainGlobals "MOST_LINES" = some (some (.int (60) t1)))
    {t2 : Tok} (y2 : PySem.W.nsIn K mainGlobals "_GREATEST" = some (some (.int (999) t2)))
    {t3 : Tok} (y3 : PySem.W.nsIn K mainGlobals "_GUARD_SIGNS" = some (some (.str ".*-0123456789" t3)))
    {t4 : Tok} (y4 : PySem.W.nsIn K mainGlobals "_MOST_BLOCKS" = some (some (.int (12) t4)))
    : ∃ fd : FuncData, (∀ (s : Shared) (v : Value), BindsTo s fd ⟨[v], []⟩ [("script", v)]) ∧ ∀ base : Heap, K.In base → base.Ns mainGlobals mg → FnOk l.prog w K mg base CX0 9 fa fd ["script"] (splaw K) := by
  have e := hfa.symm.trans (PySem.W.mg_of X G a38)
  cases e
  have T : Top K mg := ⟨def_mk X G a0 l0 c0 k0 (fun _ _ _ _ _ _ us hl => match us, hl with | [_], _ => rfl),
    def_mk X G a1 l1 c1 k1 (fun _ _ _ _ _ _ us hl => match us, hl with | [_], _ => rfl),
    def_mk X G a2 l2 c2 k2 (fun _ _ _ _ _ _ us hl => match us, hl with | [_], _ => rfl),
    def_mk X G a3 l3 c3 k3 (fun _ _ _ _ _ _ us hl => match us, hl with | [_, _], _ => rfl),
    def_mk X G a4 l4 c4 k4 (fun _ _ _ _ _ _ us hl => match us, hl with | [_], _ => rfl),
    def_mk X G a5 l5 c5 k5 (fun _ _ _ _ _ _ us hl => match us, hl with | [_, _], _ => rfl),
    def_mk X G a6 l6 c6 k6 (fun _ _ _ _ _ _ us hl => match us, hl with | [_, _], _ => rfl),
    def_mk X G a7 l7 c7 k7 (fun _ _ _ _ _ _ us hl => match us, hl with | [_, _], _ => rfl),
    def_mk X G a8 l8 c8 k8 (fun _ _ _ _ _ _ us hl => match us, hl with | [_], _ => rfl),
    def_mk X G a9 l9 c9 k9 (fun _ _ _ _ _ _ us hl => match us, hl with | [_, _], _ => rfl),
    def_mk X G a10 l10 c10 k10 (fun _ _ _ _ _ _ us hl => match us, hl with | [_, _], _ => rfl),
    def_mk X G a11 l11 c11 k11 (fun _ _ _ _ _ _ us hl => match us, hl with | [_, _], _ => rfl),
    def_mk X G a12 l12 c12 k12 (fun _ _ _ _ _ _ us hl => match us, hl with | [_, _], _ => rfl),
    def_mk X G a13 l13 c13 k13 (fun _ _ _ _ _ _ us hl => match us, hl with | [_, _, _, _], _ => rfl),
    def_mk X G a14 l14 c14 k14 (fun _ _ _ _ _ _ us hl => match us, hl with | [_, _], _ => rfl),
    def_mk X G a15 l15 c15 k15 (fun _ _ _ _ _ _ us hl => match us, hl with | [_, _], _ => rfl),
    def_mk X G a16 l16 c16 k16 (fun _ _ _ _ _ _ us hl => match us, hl with | [_, _], _ => rfl),
    def_mk X G a17 l17 c17 k17 (fun _ _ _ _ _ _ us hl => match us, hl with | [_, _], _ => rfl),
    def_mk X G a18 l18 c18 k18 (fun _ _ _ _ _ _ us hl => match us, hl with | [_, _], _ => rfl),
    def_mk X G a19 l19 c19 k19 (fun _ _ _ _ _ _ us hl => match us, hl with | [_], _ => rfl),
    def_mk X G a20 l20 c20 k20 (fun _ _ _ _ _ _ us hl => match us, hl with | [_, _], _ => rfl),
    def_mk X G a21 l21 c21 k21 (fun _ _ _ _ _ _ us hl => match us, hl with | [_, _], _ => rfl),
    def_mk X G a22 l22 c22 k22 (fun _ _ _ _ _ _ us hl => match us, hl with | [_, _], _ => rfl),
    def_mk X G a23 l23 c23 k23 (fun _ _ _ _ _ _ us hl => match us, hl with | [_], _ => rfl),
    def_mk X G a24 l24 c24 k24 (fun _ _ _ _ _ _ us hl => match us, hl with | [_, _, _], _ => rfl),
    def_mk X G a25 l25 c25 k25 (fun _ _ _ _ _ _ us hl => match us, hl with | [_, _, _], _ => rfl),
    def_mk X G a26 l26 c26 k26 (fun _ _ _ _ _ _ us hl => match us, hl with | [_, _], _ => rfl),
    def_mk X G a27 l27 c27 k27 (fun _ _ _ _ _ _ us hl => match us, hl with | [_, _], _ => rfl),
    def_mk X G a28 l28 c28 k28 (fun _ _ _ _ _ _ us hl => match us, hl with | [_, _], _ => rfl),
    def_mk X G a29 l29 c29 k29 (fun _ _ _ _ _ _ us hl => match us, hl with | [_, _], _ => rfl),
    def_mk X G a30 l30 c30 k30 (fun _ _ _ _ _ _ us hl => match us, hl with | [_], _ => rfl),
    def_mk X G a31 l31 c31 k31 (fun _ _ _ _ _ _ us hl => match us, hl with | [_, _], _ => rfl),
    def_mk X G a32 l32 c32 k32 (fun _ _ _ _ _ _ us hl => match us, hl with | [_, _], _ => rfl),
    def_mk X G a33 l33 c33 k33 (fun _ _ _ _ _ _ us hl => match us, hl with | [_, _, _], _ => rfl),
    def_mk X G a34 l34 c34 k34 (fun _ _ _ _ _ _ us hl => match us, hl with | [_, _], _ => rfl),
    def_mk X G a35 l35 c35 k35 (fun _ _ _ _ _ _ us hl => match us, hl with | [_, _], _ => rfl),
    def_mk X G a36 l36 c36 k36 (fun _ _ _ _ _ _ us hl => match us, hl with | [_, _], _ => rfl),
    def_mk X G a37 l37 c37 k37 (fun _ _ _ _ _ _ us hl => match us, hl with | [_, _, _], _ => rfl),
    def_mk X G a38 l38 c38 k38 (fun _ _ _ _ _ _ us hl => match us, hl with | [_], _ => rfl),
    PySem.W.mg_none_of X G z0,
    PySem.W.mg_none_of X G z1,
    PySem.W.mg_none_of X G z2,
    PySem.W.mg_none_of X G z3,
    PySem.W.mg_none_of X G z4,
    PySem.W.mg_none_of X G z5,
    PySem.W.mg_none_of X G z6,
    PySem.W.mg_none_of X G z7,
    PySem.W.mg_none_of X G z8,
    PySem.W.mg_none_of X G z9,
    PySem.W.mg_none_of X G z10,
    PySem.W.mg_none_of X G z11,
    const_mk X G y0 ⟨_, rfl⟩,
    const_mk X G y1 ⟨_, rfl⟩,
    const_mk X G y2 ⟨_, rfl⟩,
    const_mk X G y3 ⟨_, rfl⟩,
    const_mk X G y4 ⟨_, rfl⟩⟩
  have F := fun_mk (st := slaw) l38 c38 k38
  exact ⟨_, fun s v => .of_eq rfl, fun base _ _ => oklaw T ⟨F, F.binds (ps := ["script"]) fun _ _ _ _ _ _ us hl => match us, hl with | [_], _ => rfl, PySem.W.mg_of X G a38⟩⟩
end K03
open PySem PySem.W PyProof.Rows in
set_option maxRecDepth 100000 in
set_option maxHeartbeats 0 in
theorem PySem.Challenge.cw_redolots_k03_whole_flow_holds : PySem.Challenge.rw_redolots_k03_whole_flow.Holds := by
  w_on; o_law; k_head; (case hw => w_witness2)
  k_fill
  refine L2.walk_ofK (l := PySem.Challenge.rw_redolots_k03_whole_flow) (n := 63) (k := 9) (x := "script") (CX := L2.CX0) (sp := K03.splaw) rfl (by decide) rfl ⟨rfl, by decide, by decide⟩ (fun w h Y => PySem.W.kIn_of Y) ?F (fun K H a ns hl _ hS => ⟨a, ns, rfl, hS, hl, fun _ => rfl⟩) (fun _ _ _ _ z => z)
  case F =>
    intro w mg fa h KX G hmg
    refine' K03.all_mk KX G hmg ?a0 ?l0 ?c0 ?k0 ?a1 ?l1 ?c1 ?k1 ?a2 ?l2 ?c2 ?k2 ?a3 ?l3 ?c3 ?k3 ?a4 ?l4 ?c4 ?k4 ?a5 ?l5 ?c5 ?k5 ?a6 ?l6 ?c6 ?k6 ?a7 ?l7 ?c7 ?k7 ?a8 ?l8 ?c8 ?k8 ?a9 ?l9 ?c9 ?k9 ?a10 ?l10 ?c10 ?k10 ?a11 ?l11 ?c11 ?k11 ?a12 ?l12 ?c12 ?k12 ?a13 ?l13 ?c13 ?k13 ?a14 ?l14 ?c14 ?k14 ?a15 ?l15 ?c15 ?k15 ?a16 ?l16 ?c16 ?k16 ?a17 ?l17 ?c17 ?k17 ?a18 ?l18 ?c18 ?k18 ?a19 ?l19 ?c19 ?k19 ?a20 ?l20 ?c20 ?k20 ?a21 ?l21 ?c21 ?k21 ?a22 ?l22 ?c22 ?k22 ?a23 ?l23 ?c23 ?k23 ?a24 ?l24 ?c24 ?k24 ?a25 ?l25 ?c25 ?k25 ?a26 ?l26 ?c26 ?k26 ?a27 ?l27 ?c27 ?k27 ?a28 ?l28 ?c28 ?k28 ?a29 ?l29 ?c29 ?k29 ?a30 ?l30 ?c30 ?k30 ?a31 ?l31 ?c31 ?k31 ?a32 ?l32 ?c32 ?k32 ?a33 ?l33 ?c33 ?k33 ?a34 ?l34 ?c34 ?k34 ?a35 ?l35 ?c35 ?k35 ?a36 ?l36 ?c36 ?k36 ?a37 ?l37 ?c37 ?k37 ?a38 ?l38 ?c38 ?k38 ?z0 ?z1 ?z2 ?z3 ?z4 ?z5 ?z6 ?z7 ?z8 ?z9 ?z10 ?z11 ?y0 ?y1 ?y2 ?y3 ?y4
    (case a0 => k_is)
    (case l0 => k_is)
    (case c0 => k_is)
    (case k0 => k_is)
    (case a1 => k_is)
    (case l1 => k_is)
    (case c1 => k_is)
    (case k1 => k_is)
    (case a2 => k_is)
    (case l2 => k_is)
    (case c2 => k_is)
    (case k2 => k_is)
    (case a3 => k_is)
    (case l3 => k_is)
    (case c3 => k_is)
    (case k3 => k_is)
    (case a4 => k_is)
    (case l4 => k_is)
    (case c4 => k_is)
    (case k4 => k_is)
    (case a5 => k_is)
    (case l5 => k_is)
    (case c5 => k_is)
    (case k5 => k_is)
    (case a6 => k_is)
    (case l6 => k_is)
    (case c6 => k_is)
    (case k6 => k_is)
    (case a7 => k_is)
    (case l7 => k_is)
    (case c7 => k_is)
    (case k7 => k_is)
    (case a8 => k_is)
    (case l8 => k_is)
    (case c8 => k_is)
    (case k8 => k_is)
    (case a9 => k_is)
    (case l9 => k_is)
    (case c9 => k_is)
    (case k9 => k_is)
    (case a10 => k_is)
    (case l10 => k_is)
    (case c10 => k_is)
    (case k10 => k_is)
    (case a11 => k_is)
    (case l11 => k_is)
    (case c11 => k_is)
    (case k11 => k_is)
    (case a12 => k_is)
    (case l12 => k_is)
    (case c12 => k_is)
    (case k12 => k_is)
    (case a13 => k_is)
    (case l13 => k_is)
    (case c13 => k_is)
    (case k13 => k_is)
    (case a14 => k_is)
    (case l14 => k_is)
    (case c14 => k_is)
    (case k14 => k_is)
    (case a15 => k_is)
    (case l15 => k_is)
    (case c15 => k_is)
    (case k15 => k_is)
    (case a16 => k_is)
    (case l16 => k_is)
    (case c16 => k_is)
    (case k16 => k_is)
    (case a17 => k_is)
    (case l17 => k_is)
    (case c17 => k_is)
    (case k17 => k_is)
    (case a18 => k_is)
    (case l18 => k_is)
    (case c18 => k_is)
    (case k18 => k_is)
    (case a19 => k_is)
    (case l19 => k_is)
    (case c19 => k_is)
    (case k19 => k_is)
    (case a20 => k_is)
    (case l20 => k_is)
    (case c20 => k_is)
    (case k20 => k_is)
    (case a21 => k_is)
    (case l21 => k_is)
    (case c21 => k_is)
    (case k21 => k_is)
    (case a22 => k_is)
    (case l22 => k_is)
    (case c22 => k_is)
    (case k22 => k_is)
    (case a23 => k_is)
    (case l23 => k_is)
    (case c23 => k_is)
    (case k23 => k_is)
    (case a24 => k_is)
    (case l24 => k_is)
    (case c24 => k_is)
    (case k24 => k_is)
    (case a25 => k_is)
    (case l25 => k_is)
    (case c25 => k_is)
    (case k25 => k_is)
    (case a26 => k_is)
    (case l26 => k_is)
    (case c26 => k_is)
    (case k26 => k_is)
    (case a27 => k_is)
    (case l27 => k_is)
    (case c27 => k_is)
    (case k27 => k_is)
    (case a28 => k_is)
    (case l28 => k_is)
    (case c28 => k_is)
    (case k28 => k_is)
    (case a29 => k_is)
    (case l29 => k_is)
    (case c29 => k_is)
    (case k29 => k_is)
    (case a30 => k_is)
    (case l30 => k_is)
    (case c30 => k_is)
    (case k30 => k_is)
    (case a31 => k_is)
    (case l31 => k_is)
    (case c31 => k_is)
    (case k31 => k_is)
    (case a32 => k_is)
    (case l32 => k_is)
    (case c32 => k_is)
    (case k32 => k_is)
    (case a33 => k_is)
    (case l33 => k_is)
    (case c33 => k_is)
    (case k33 => k_is)
    (case a34 => k_is)
    (case l34 => k_is)
    (case c34 => k_is)
    (case k34 => k_is)
    (case a35 => k_is)
    (case l35 => k_is)
    (case c35 => k_is)
    (case k35 => k_is)
    (case a36 => k_is)
    (case l36 => k_is)
    (case c36 => k_is)
    (case k36 => k_is)
    (case a37 => k_is)
    (case l37 => k_is)
    (case c37 => k_is)
    (case k37 => k_is)
    (case a38 => k_is)
    (case l38 => k_is)
    (case c38 => k_is)
    (case k38 => k_is)
    (case z0 => k_is)
    (case z1 => k_is)
    (case z2 => k_is)
    (case z3 => k_is)
    (case z4 => k_is)
    (case z5 => k_is)
    (case z6 => k_is)
    (case z7 => k_is)
    (case z8 => k_is)
    (case z9 => k_is)
    (case z10 => k_is)
    (case z11 => k_is)
    (case y0 => k_is)
    (case y1 => k_is)
    (case y2 => k_is)
    (case y3 => k_is)
    (case y4 => k_is)
#print axioms PySem.Challenge.cw_redolots_k03_whole_flow_holds
