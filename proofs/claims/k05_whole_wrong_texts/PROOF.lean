import PyProof.Rows.All
import Wide.All
import OpenK.AllK
import Wide.FinOn
import KE.GoesEnum
import HandS.Base
import HandS.Call
import HandS.List
import HandS.Comp
import HandS.Ends
import HandS.Dict
import HandS.Iter
import HandS.Text
import HandS.Words
import HandS.WordsList
import HandS.IsInst
import HandS.Walk
import HandS.Codes
import HandS.Conv
import HandS.FStr
import HandS.Text
import HandS.Codes
import KE.KUnpack
import PyProof.RulesMatch
import PyProof.RulesMatchSeq
import PyProof.Rows.MatchSeqLen
import KE.KExcIs
import HandS.Exc
import HandS.ExcInit
import HandS.ExcField
import HandS.ExcIs
import HandS.ExcOwn
import HandS.TryOnly
import HandS.WordsExc
import PySem.Challenge.RW_redolots_k05_whole_wrong_texts
set_option Elab.async false
set_option linter.all false
set_option maxRecDepth 100000
set_option maxHeartbeats 4000000
/-! enumerate over a tracked tuple or a text, zip over two texts: walks of our own -/
namespace Rv
open PySem PySem.Spec PyProof.Rows L2

/-- an iterator that stands at it: n turns, turn i hands out what out says, as long as ok holds of the tracked heap -/
structure Feed (P : Program) (w : World) (K : PySem.W.Frag) (it : Addr) (n : Nat) (ok : Hp → Prop) (out : Nat → Option V) (st : Nat → Heap → Prop) : Prop where
  cell : ∀ i h, st i h → ∃ ob, h.get? it = some ob ∧ ∀ v, ob.data ≠ .cell v
  stay : ∀ i h1 h2, st i h1 → (∀ ob, h1.get? it = some ob → h2.get? it = some ob) → st i h2
  feed : ∀ (X : Cx), X.prog = P → X.w = w → X.K = K → X.calm = true → ∀ (pins : List (Addr × Obj)) (σ : L2.St) (H : Hp) (s : Shared), Inv X pins σ H s → ok H → H it = none →
    ∃ (fp : List Addr) (Pv : Nat → Value → Prop) (Sv : Nat → Heap → Prop), Draws X.prog X.w X.A.in1 it fp n Pv Sv ∧ (∀ i h, Sv i h → st i h) ∧ (∀ i, st i s.heap → Sv i s.heap) ∧
      (∀ i u, Pv i u → ∃ x, RelV x u ∧ out i = some x) ∧ ∀ b, b ≠ it → H b = none → b ∉ fp

theorem feed_text {P : Program} {w : World} {K : PySem.W.Frag} (it : Addr) (x : Str) (t : Tok) :
    Feed P w K it x.cps.size (fun _ => True) (fun i => (x.cps[i]?).map fun c => V.str ⟨#[c]⟩) (fun i h => h.IsStrIter it (strIterType x) x t i) where
  cell := fun i h q => by
    obtain ⟨ob, e1, e2, e3⟩ := q
    refine ⟨ob, e1, fun v z => ?_⟩
    rw [e3] at z
    cases z
  stay := fun i h1 h2 q k => by
    obtain ⟨ob, e1, e2⟩ := q
    exact ⟨ob, k ob e1, e2⟩
  feed := fun X hP hw hK hc pins σ H s I _ hn => by
    refine ⟨[it], _, _, Draws.text (A := X.A.in1) (show X.A.in1.handled = none from I.ok.hd hc) it x t, fun _ _ q => q, fun _ q => q, fun i u q => ?_, fun b hb _ hm => hb (by simpa using hm)⟩
    obtain ⟨c, tk, e1, e2⟩ := q
    exact ⟨.str ⟨#[c]⟩, ⟨tk, e2⟩, by rw [e1]; rfl⟩

theorem feed_tup {P : Program} {w : World} {K : PySem.W.Frag} (it a : Addr) (xs : List V) :
    Feed P w K it xs.length (fun H => H a = some (.tup xs)) (fun i => xs[i]?) (fun i h => h.IsTupleIter it a i) where
  cell := fun i h q => by
    obtain ⟨ob, e1, e2, e3⟩ := q
    refine ⟨ob, e1, fun v z => ?_⟩
    rw [e3] at z
    cases z
  stay := fun i h1 h2 q k => by
    obtain ⟨ob, e1, e2⟩ := q
    exact ⟨ob, k ob e1, e2⟩
  feed := fun X hP hw hK hc pins σ H s I hg hn => by
    obtain ⟨its, rv, hT, _⟩ := I.tuple (SqT.of (K := X.K) hg)
    have hl : its.toArray.size = xs.length := by
      rw [List.size_toArray]
      exact rv.length.symm
    have nai : a ≠ it := ne_of_none hg hn
    have D := Draws.tuple (prog := X.prog) (w := X.w) (A := X.A.in1) (show X.A.in1.handled = none from I.ok.hd hc) it a nai its.toArray
    rw [hl] at D
    refine ⟨[it, a], _, _, D, fun _ _ q => q.1, fun _ q => ⟨q, hT⟩, fun i u q => ?_, fun b hb hbn hm => ?_⟩
    · have q2 : its[i]? = some u := by simpa using q
      have hi : i < xs.length := by
        have := (List.getElem?_eq_some_iff.mp q2).1
        rw [rv.length]
        exact this
      obtain ⟨u', e1, r1⟩ := rv.get (List.getElem?_eq_getElem hi)
      rw [q2] at e1
      cases e1
      exact ⟨xs[i], r1, List.getElem?_eq_getElem hi⟩
    · rcases List.mem_cons.mp hm with z | z
      · exact hb z
      · have z2 : b = a := by simpa using z
        rw [z2, hg] at hbn
        cases hbn

/-- index and item in a new pair at each turn -/
def Jen (n : Nat) (ok : Hp → Prop) (out : Nat → Option V) : It :=
  ⟨fun i H => i < n ∧ ok H, fun i H v H' => ∃ T x, v = .ref T ∧ H T = none ∧ H' = upd H T (.tup [.int (i : Nat), x]) ∧ out i = some x, fun i H => i = n ∧ ok H⟩
theorem walk_jen {n : Nat} {ok : Hp → Prop} {out : Nat → Option V} : Walk (Jen n ok out) n ok (YPair (fun i => some (.int (i : Nat))) out) := by
  refine ⟨fun _ _ hi q => ⟨hi, q⟩, fun _ q => ⟨rfl, q⟩, fun i H v H' _ _ y => ?_⟩
  obtain ⟨T, x, a1, a2, a3, a4⟩ := y
  exact ⟨T, .int (i : Nat), x, a1, a2, a3, rfl, a4⟩

theorem turn_jen {P : Program} {w : World} {K : PySem.W.Frag} {elts : List Expr} {kk : Nat} {tp : Pos} {e it : Addr} {n : Nat} {ok : Hp → Prop} {out : Nat → Option V} {st : Nat → Heap → Prop}
    (F : Feed P w K it n ok out st) (hne : e ≠ it) :
    Turn P w K (.Tuple elts kk tp) (Jen n ok out) [e, it] e (fun i h => (∃ old, IsEnum h e it (0 + ((i : Nat) : Int)) old) ∧ st i h) where
  mem := List.mem_cons_self ..
  obj := fun i h q b hb => by
    obtain ⟨⟨old, he⟩, hs⟩ := q
    rcases List.mem_cons.mp hb with z | z
    · subst z
      exact ⟨_, he, fun v y => nomatch y⟩
    · have z2 : b = it := by simpa using z
      subst z2
      exact F.cell i h hs
  keep := fun i h1 h2 q k => by
    obtain ⟨⟨old, he⟩, hs⟩ := q
    exact ⟨⟨old, k e (by simp) _ he⟩, F.stay i h1 h2 hs fun ob => k it (by simp) ob⟩
  item := by
    intro X hP hw hK hc i pins s σ H E I hf q hg
    subst hP hw hK
    obtain ⟨⟨old, he⟩, hs⟩ := q
    have fe := hf e (by simp)
    have fi := hf it (by simp)
    obtain ⟨fp, Pv, Sv, D, back, go, val, off⟩ := F.feed X rfl rfl rfl hc pins σ H s I hg.2 fi.1
    refine wpAny_pyNext_enum_itemC D he (go i hs) hg.1 hne (off e hne fe.1) fun u h1 tk hu ho hs1 hT hsz hk => ?_
    obtain ⟨x, rx, ox⟩ := val i u hu
    refine ⟨_, rfl, wpAny_letOwnedTupleGo_enum (s := { s with heap := h1, toks := tk + 1 }) ho fun h2 he2 sb => ?_⟩
    have hel : e < s.heap.objs.size := Heap.lt_size he
    obtain ⟨oi, eoi, _⟩ := F.cell i s.heap hs
    have hil : it < s.heap.objs.size := Heap.lt_size eoi
    have hT2 : h2.get? s.heap.objs.size = some { cls := .type "tuple", data := .seq #[.int (0 + (i : Int)) tk, u] } := (sb.2 _ (Nat.ne_of_gt hel)).trans hT
    have kept : ∀ b ob, b ∉ [e, it] → s.heap.get? b = some ob → h2.get? b = some ob := fun b ob hb z => by
      have n1 : b ≠ e := fun y => hb (by rw [y]; simp)
      have n2 : b ≠ it := fun y => hb (by rw [y]; simp)
      exact (sb.2 b n1).trans (hk b ob n1 n2 z)
    have z0 : (0 + (i : Int)) = ((i : Nat) : Int) := by omega
    have fresh : ObjOk X.prog X.w (upd H s.heap.objs.size (.tup [.int (i : Nat), x])) h2 s.heap.objs.size (.tup [.int (i : Nat), x]) :=
      ⟨Nat.le_trans (show 2 ≤ 3 by decide) (by decide), [.int (0 + (i : Int)) tk, u], .cons ⟨tk, by rw [z0]⟩ (.cons rx .nil), ⟨_, hT2, rfl, _, rfl⟩⟩
    have I2 : Inv X pins σ (upd H s.heap.objs.size (.tup [.int (i : Nat), x])) { s with heap := h2, toks := tk + 1 } :=
      I.turnedNew (ch := [e, it]) kept hf (Nat.le_refl _) fresh
    refine ⟨.ref s.heap.objs.size, _, I2, rfl, ⟨_, x, rfl, I.hok.fresh (Nat.le_refl _), rfl, ox⟩, ⟨⟨u, ?_⟩, F.stay (i + 1) h1 h2 (back _ _ hs1) fun ob y => (sb.2 it hne.symm).trans y⟩, fun b hb => ?_⟩
    · have z1 : (0 + ((i + 1 : Nat) : Int)) = 0 + (i : Int) + 1 := by omega
      rw [z1]
      exact he2
    · have hb2 : b < s.heap.objs.size := by
        rcases List.mem_cons.mp hb with z | z
        · rw [z]; exact hel
        · rw [show b = it by simpa using z]; exact hil
      rw [upd_ne (Nat.ne_of_lt hb2)]
      exact (hf b hb).1
  done := by
    intro X hP hw hK hc i pins s σ H E I hf q hg
    subst hP hw hK
    obtain ⟨⟨old, he⟩, hs⟩ := q
    obtain ⟨rfl, hok⟩ := hg
    obtain ⟨f0, f1, f2, f3, f4, f5⟩ := hf it (by simp)
    obtain ⟨fp, Pv, Sv, D, back, go, val, off⟩ := F.feed X rfl rfl rfl hc pins σ H s I hok f0
    exact wpAny_pyNext_enum_endD D he (go _ hs) fun h1 eb => ⟨rfl, I.turned (t' := s.toks) (fun b ob hb y => eb b ob hb y) f0 f1 f3 f4 f5⟩
  self := fun A i s Q E q h => by
    obtain ⟨⟨old, he⟩, _⟩ := q
    exact wpAny_pyIter_enum he h

theorem en1 {v : Value} {o : Obj} {G : Heap → Prop} (B : Begins v o G) :
    Meets (Builtin.«enumerate.__new__» ⟨[.type "enumerate", v], []⟩) (fun _ R s => G s.heap ∧
      R (.ok (.ret (.ref (s.heap.push o).objs.size)))
        { s with heap := (s.heap.push o).push { cls := .type "enumerate", data := .fields #[.none, .bool false, .ref s.heap.objs.size, rawInt 0, .none, .none] } }) :=
  .of_wp fun prog w A R s h => by
    obtain ⟨hp, g, d, tk, os⟩ := s
    obtain ⟨h1, h⟩ := h
    have hsub := sub_enumerate
    have begun : ∀ {A' : Around} {E : Value → Shared → Prop} {Q : Value → Shared → Prop}, Q (.ref hp.objs.size) ⟨hp.push o, g, d, tk, os⟩ → wpAny (model prog w) A' (pyIter v) Q E ⟨hp, g, d, tk, os⟩ :=
      fun q => B.iter prog w _ _ ⟨hp, g, d, tk, os⟩ _ h1 q
    wp_walk using begun
    refine wpAny_stack_any fun stk => wpAny_pure ?_
    split
    · rename_i c _ _ _ _ _
      cases (c == Value.type "enumerate")
      all_goals (wp_walk using begun; exact ⟨_, rfl, h⟩)
    · wp_walk using begun
      exact ⟨_, rfl, h⟩
theorem enum1 {prog : Program} {w : World} {A : Around} {E : Value → Shared → Prop} {s : Shared} {v : Value} {o : Obj} {G : Heap → Prop} {Q : Value → Shared → Prop} (B : Begins v o G) (h1 : G s.heap)
    (h : ∀ h', IsEnum h' (s.heap.objs.size + 1) s.heap.objs.size 0 .none → h'.get? s.heap.objs.size = some o → (∀ b u, s.heap.get? b = some u → h'.get? b = some u) → Q (.ref (s.heap.objs.size + 1)) { s with heap := h' }) :
    wpAny (model prog w) A (call (.type "enumerate") [v]) Q E s := by
  refine callType_new F.called_enumerate (by decide) (F.typeCall_enumerate_1 _) (F.newCall_enumerate_1 _) (fun ob => F.args_object_init_2 ob _) F.entry_enumerate_new (en1 B) ⟨h1, ?_⟩
  have sz : (s.heap.push o).objs.size = s.heap.objs.size + 1 := Heap.size_push ..
  have here := Heap.get?_push_size (s.heap.push o) (o := { cls := .type "enumerate", data := .fields #[.none, .bool false, .ref s.heap.objs.size, rawInt 0, .none, .none] }) rfl
  rw [sz] at here
  show _ ∧ _
  rw [sz]
  exact ⟨⟨_, here, rfl⟩, h _ here (Heap.get?_push_of_some _ (Heap.get?_push_size _ B.free)) fun b u y => Heap.get?_push_of_some _ (Heap.get?_push_of_some _ y)⟩

def iEnT (ta : TA) : TI := fun σ H R => ta σ H fun vs H1 => ∃ a xs, vs = [.ref a] ∧ H1 a = some (.tup xs) ∧ R (Jen xs.length (fun H => H a = some (.tup xs)) (fun i => xs[i]?)) H1
theorem pi_enT {X : Cx} {e : Expr} {ta : TA} {p pos tpos : Pos} {elts : List Expr} {kk : Nat} (hg : Gl X "enumerate") (hm : X.mg "enumerate" = none) (ha : PA X [e] ta) (hs : starEach [e] X.env = [(false, eval e X.env)] := by rfl) :
    PI X (.Tuple elts kk tpos) (.Call (.Name "enumerate" p) [e] [] pos) (iEnT ta) := by
  refine ⟨fun pins s σ H R I h => Call_ (ld_blt I hg hm boot_enumerate (PyProof.Rows.callWith_type1 (thn (ha.run pos pins s σ H _ I h) fun us s1 q0 => ?_) hs rfl))⟩
  obtain ⟨vs, H1, I1, r1, a, xs, rfl, hT, q⟩ := q0
  cases r1 with
  | cons r rr =>
    cases rr
    cases r
    obtain ⟨its, rv, hI, _⟩ := I1.tuple (SqT.of (K := X.K) hT)
    refine enum1 (begins_tuple a its.toArray) hI fun h' he ho hk => wpAny_pyIter_enum he ?_
    have I2 : Inv X pins σ H1 { s1 with heap := h' } := I1.kept (t' := s1.toks) hk
    refine ⟨s1.heap.objs.size + 1, [s1.heap.objs.size + 1, s1.heap.objs.size], _, _, H1, rfl, I2, turn_jen (feed_tup s1.heap.objs.size a xs) (Nat.succ_ne_self _), ⟨⟨.none, he⟩, ⟨_, ho, rfl, rfl⟩⟩, fun b hb => ?_, q⟩
    have le : s1.heap.objs.size ≤ b := by
      rcases List.mem_cons.mp hb with z | z
      · rw [z]; exact Nat.le_succ _
      · rw [show b = s1.heap.objs.size by simpa using z]; exact Nat.le_refl _
    exact I1.fpOk le (I1.hok.fresh le)
def iEnS (ta : TA) : TI := fun σ H R => ta σ H fun vs H1 => ∃ x, vs = [.str x] ∧ R (Jen x.cps.size (fun _ => True) (fun i => (x.cps[i]?).map fun c => V.str ⟨#[c]⟩)) H1
theorem pi_enS {X : Cx} {e : Expr} {ta : TA} {p pos tpos : Pos} {elts : List Expr} {kk : Nat} (hg : Gl X "enumerate") (hm : X.mg "enumerate" = none) (ha : PA X [e] ta) (hs : starEach [e] X.env = [(false, eval e X.env)] := by rfl) :
    PI X (.Tuple elts kk tpos) (.Call (.Name "enumerate" p) [e] [] pos) (iEnS ta) := by
  refine ⟨fun pins s σ H R I h => Call_ (ld_blt I hg hm boot_enumerate (PyProof.Rows.callWith_type1 (thn (ha.run pos pins s σ H _ I h) fun us s1 q0 => ?_) hs rfl))⟩
  obtain ⟨vs, H1, I1, r1, x, rfl, q⟩ := q0
  cases r1 with
  | cons r rr =>
    cases rr
    obtain ⟨t, rfl⟩ := r
    refine enum1 (begins_text x t) trivial fun h' he ho hk => wpAny_pyIter_enum he ?_
    have I2 : Inv X pins σ H1 { s1 with heap := h' } := I1.kept (t' := s1.toks) hk
    refine ⟨s1.heap.objs.size + 1, [s1.heap.objs.size + 1, s1.heap.objs.size], _, _, H1, rfl, I2, turn_jen (feed_text s1.heap.objs.size x t) (Nat.succ_ne_self _), ⟨⟨.none, he⟩, ⟨_, ho, rfl, rfl⟩⟩, fun b hb => ?_, q⟩
    have le : s1.heap.objs.size ≤ b := by
      rcases List.mem_cons.mp hb with z | z
      · rw [z]; exact Nat.le_succ _
      · rw [show b = s1.heap.objs.size by simpa using z]; exact Nat.le_refl _
    exact I1.fpOk le (I1.hok.fresh le)

/-! zip of two texts -/
def sgn (x : Str) (i : Nat) : Option V := (x.cps[i]?).map fun c => V.str ⟨#[c]⟩
def Jzp (x y : Str) : It :=
  ⟨fun i _ => i < min x.cps.size y.cps.size, fun i H v H' => ∃ T a b, v = .ref T ∧ H T = none ∧ H' = upd H T (.tup [a, b]) ∧ sgn x i = some a ∧ sgn y i = some b, fun i _ => i = min x.cps.size y.cps.size⟩
theorem walk_jzp {x y : Str} : Walk (Jzp x y) (min x.cps.size y.cps.size) (fun _ => True) (YPair (sgn x) (sgn y)) :=
  ⟨fun _ _ hi _ => hi, fun _ _ => rfl, fun _ _ _ _ _ _ q => q⟩
theorem turn_jzp {P : Program} {w : World} {K : PySem.W.Frag} {elts : List Expr} {kk : Nat} {tp : Pos} {z TI TO i1 i2 : Addr} {x y : Str} {t1 t2 : Tok} (S : ZipSep2 z TI TO i1 i2 [i1] [i2]) :
    Turn P w K (.Tuple elts kk tp) (Jzp x y) [z, TI, TO, i1, i2] z (fun i h => IsZip h z TI TO .none ∧ IsTupOf2 h TI (.ref i1) (.ref i2) ∧ (∃ a b, IsTupOf2 h TO a b) ∧ h.IsStrIter i1 (strIterType x) x t1 i ∧ h.IsStrIter i2 (strIterType y) y t2 i) where
  mem := List.mem_cons_self ..
  obj := fun i h q c hc => by
    obtain ⟨hz, hTI, ⟨a, b, hTO⟩, ⟨o1, e1, _, d1⟩, ⟨o2, e2, _, d2⟩⟩ := q
    have cs : c = z ∨ c = TI ∨ c = TO ∨ c = i1 ∨ c = i2 := by simpa using hc
    rcases cs with k | k | k | k | k
    · subst k; exact ⟨_, hz, fun v n => nomatch n⟩
    · subst k; exact ⟨_, hTI, fun v n => nomatch n⟩
    · subst k; exact ⟨_, hTO, fun v n => nomatch n⟩
    · subst k; exact ⟨o1, e1, fun v n => by rw [d1] at n; cases n⟩
    · subst k; exact ⟨o2, e2, fun v n => by rw [d2] at n; cases n⟩
  keep := fun i h1 h2 q k => by
    obtain ⟨hz, hTI, ⟨a, b, hTO⟩, ⟨o1, e1, r1⟩, ⟨o2, e2, r2⟩⟩ := q
    exact ⟨k z (by simp) _ hz, k TI (by simp) _ hTI, ⟨a, b, k TO (by simp) _ hTO⟩, ⟨o1, k i1 (by simp) _ e1, r1⟩, ⟨o2, k i2 (by simp) _ e2, r2⟩⟩
  item := by
    intro X hP hw hK hc i pins s σ H E I hf q hg
    subst hP hw hK
    have hg : i < min x.cps.size y.cps.size := hg
    obtain ⟨hz, hTI, ⟨a, b, hTO⟩, s1, s2⟩ := q
    have hh : X.A.in1.handled = none := I.ok.hd hc
    have D1 := Draws.text (prog := X.prog) (w := X.w) hh i1 x t1
    have D2 := Draws.text (prog := X.prog) (w := X.w) hh i2 y t2
    refine wpAny_pyNext_zipD2_item S D1 D2 hz hTI hTO s1 s2 (by omega) (by omega) fun u1 u2 h1 tk hu1 hu2 hz1 hTO1 n1 n2 hT hsz hk => ?_
    obtain ⟨c1, k1, ec1, rfl⟩ := hu1
    obtain ⟨c2, k2, ec2, rfl⟩ := hu2
    refine ⟨_, rfl, wpAny_letOwnedTupleGo_zip (s := { s with heap := h1, toks := tk }) hz1 fun h2 hz2 sb => ?_⟩
    have hzl : z < s.heap.objs.size := Heap.lt_size hz
    have hT2 : h2.get? s.heap.objs.size = some { cls := .type "tuple", data := .seq #[.str ⟨#[c1]⟩ k1, .str ⟨#[c2]⟩ k2] } := (sb.2 _ (Nat.ne_of_gt hzl)).trans hT
    have fresh : ObjOk X.prog X.w (upd H s.heap.objs.size (.tup [.str ⟨#[c1]⟩, .str ⟨#[c2]⟩])) h2 s.heap.objs.size (.tup [.str ⟨#[c1]⟩, .str ⟨#[c2]⟩]) :=
      ⟨Nat.le_trans (show 2 ≤ 3 by decide) (by decide), [.str ⟨#[c1]⟩ k1, .str ⟨#[c2]⟩ k2], .cons ⟨k1, rfl⟩ (.cons ⟨k2, rfl⟩ .nil), ⟨_, hT2, rfl, _, rfl⟩⟩
    have kept : ∀ c ob, c ∉ [z, TI, TO, i1, i2] → s.heap.get? c = some ob → h2.get? c = some ob := fun c ob hb q => by
      have m1 : c ≠ z := fun k => hb (by rw [k]; simp)
      have m2 : c ≠ TO := fun k => hb (by rw [k]; simp)
      have m3 : c ≠ i1 := fun k => hb (by rw [k]; simp)
      have m4 : c ≠ i2 := fun k => hb (by rw [k]; simp)
      exact (sb.2 c m1).trans (hk c ob m1 m2 m3 m4 q)
    have I2 : Inv X pins σ (upd H s.heap.objs.size (.tup [.str ⟨#[c1]⟩, .str ⟨#[c2]⟩])) { s with heap := h2, toks := tk } :=
      I.turnedNew (ch := [z, TI, TO, i1, i2]) kept hf (Nat.le_refl _) fresh
    refine ⟨.ref s.heap.objs.size, _, I2, rfl, ⟨_, _, _, rfl, I.hok.fresh (Nat.le_refl _), rfl, by unfold sgn; rw [ec1]; rfl, by unfold sgn; rw [ec2]; rfl⟩, ⟨hz2, ?_, ⟨_, _, (sb.2 _ S.TOz).trans hTO1⟩, ?_, ?_⟩, fun c hcm => ?_⟩
    · exact (sb.2 _ S.TIz).trans (hk _ _ S.TIz S.TITO S.TIi1 S.TIi2 hTI)
    · obtain ⟨o1, e1, r1⟩ := n1
      exact ⟨o1, (sb.2 _ S.zi1.symm).trans e1, r1⟩
    · obtain ⟨o2, e2, r2⟩ := n2
      exact ⟨o2, (sb.2 _ S.zi2.symm).trans e2, r2⟩
    · have lt : c < s.heap.objs.size := by
        obtain ⟨o1, e1, _⟩ := s1
        obtain ⟨o2, e2, _⟩ := s2
        have cs : c = z ∨ c = TI ∨ c = TO ∨ c = i1 ∨ c = i2 := by simpa using hcm
        rcases cs with k | k | k | k | k
        · rw [k]; exact hzl
        · rw [k]; exact Heap.lt_size hTI
        · rw [k]; exact Heap.lt_size hTO
        · rw [k]; exact Heap.lt_size e1
        · rw [k]; exact Heap.lt_size e2
      rw [upd_ne (Nat.ne_of_lt lt)]
      exact (hf c hcm).1
  done := by
    intro X hP hw hK hc i pins s σ H E I hf q hg
    subst hP hw hK
    have hg : i = min x.cps.size y.cps.size := hg
    obtain ⟨hz, hTI, ⟨a, b, hTO⟩, s1, s2⟩ := q
    have hh : X.A.in1.handled = none := I.ok.hd hc
    have D1 := Draws.text (prog := X.prog) (w := X.w) hh i1 x t1
    have D2 := Draws.text (prog := X.prog) (w := X.w) hh i2 y t2
    refine wpAny_pyNext_zipD2_end S D1 D2 hz hTI hTO s1 s2 (by omega) (by omega) (by omega) fun h1 tk hk => ⟨rfl, I.turnedL (ch := [z, TI, TO, i1, i2]) (fun c ob hb q => ?_) hf⟩
    exact hk c ob (fun k => hb (by rw [k]; simp)) (fun k => hb (by rw [k]; simp)) (fun k => hb (by rw [k]; simp)) (fun k => hb (by rw [k]; simp)) q
  self := fun A i s Q E q h => wpAny_pyIter_zip q.1 h
def iZpS (ta : TA) : TI := fun σ H R => ta σ H fun vs H1 => ∃ x y, vs = [.str x, .str y] ∧ R (Jzp x y) H1
theorem pi_zpS {X : Cx} {e e2 : Expr} {ta : TA} {p pos tpos : Pos} {elts : List Expr} {kk : Nat} (hg : Gl X "zip") (hm : X.mg "zip" = none) (ha : PA X [e, e2] ta)
    (hs : starEach [e, e2] X.env = (false, eval e X.env) :: starEach [e2] X.env := by rfl) (hpl : (backTo pos (starEach [e2] X.env)).any (·.1) = false := by rfl) :
    PI X (.Tuple elts kk tpos) (.Call (.Name "zip" p) [e, e2] [] pos) (iZpS ta) := by
  refine ⟨fun pins s σ H R I h => Call_ (ld_blt I hg hm PyProof.Rows.boot_zip (PyProof.Rows.callWith_type1 (thn (ha.run pos pins s σ H _ I h) fun us s1 q0 => ?_) hs hpl))⟩
  obtain ⟨vs, H1, I1, r1, x, y, rfl, q⟩ := q0
  cases r1 with
  | cons r rr =>
    cases rr with
    | cons r2 rr =>
      cases rr
      obtain ⟨t1, rfl⟩ := r
      obtain ⟨t2, rfl⟩ := r2
      refine zip_begins2 (begins_text x t1) (begins_text y t2) trivial trivial fun h' hz hTI hTO g1 g2 hsz hk => wpAny_pyIter_zip hz ?_
      have I2 : Inv X pins σ H1 { s1 with heap := h' } := I1.kept (t' := s1.toks) hk
      have S := zip_sep2 (N := s1.heap.objs.size) (fp1 := []) (fp2 := []) (fun _ k => nomatch k) (fun _ k => nomatch k)
      refine ⟨s1.heap.objs.size + 4, [s1.heap.objs.size + 4, s1.heap.objs.size + 2, s1.heap.objs.size + 3, s1.heap.objs.size, s1.heap.objs.size + 1], _, _, H1, rfl, I2, turn_jzp S, ⟨hz, hTI, ⟨_, _, hTO⟩, ⟨_, g1, rfl, rfl⟩, ⟨_, g2, rfl, rfl⟩⟩, fun c hcm => ?_, q⟩
      have le : s1.heap.objs.size ≤ c := by
        have cs : c = s1.heap.objs.size + 4 ∨ c = s1.heap.objs.size + 2 ∨ c = s1.heap.objs.size + 3 ∨ c = s1.heap.objs.size ∨ c = s1.heap.objs.size + 1 := by simpa using hcm
        rcases cs with k | k | k | k | k <;> rw [k] <;> first | exact Nat.le_add_right _ _ | exact Nat.le_refl _
      exact I1.fpOk le (I1.hok.fresh le)
end Rv
/-! steps of a reading, one a piece; heaps; the bag of draws -/
namespace Rv
open PySem PySem.Spec PyProof.Rows L2

theorem pe_k {X : Cx} {x : Str} {v : V} {pos : Pos} (hg : Gl X x) (h : ∃ u, X.mg x = some u ∧ RelV v u) (hd : (x == ("__debug__" : Str)) = false := by decide) : PE X (.Name x pos) (tC v) := by
  obtain ⟨u, hm, r⟩ := h
  exact pe_glob hg hm r hd

/-- a def of the top: where it stands, how its arguments bind -/
structure Def (K : PySem.W.Frag) (mg : Str → Option Value) (x : Str) (st : Stmt) (ps : List Str) (f : Addr) (fd : FuncData) : Prop where
  F : Fun K x x st f fd
  b : Binds K fd ps []
  g : mg x = some (.ref f)
theorem def_mk {K : PySem.W.Frag} {h : Heap} {mg : Str → Option Value} {x : Str} {st : Stmt} {ps : List Str} {f : Addr} {oc : Value} {od an : Option Addr} {osl : Array (Option Value)} {kV doc pm cdv ct : Value} (X : K.In h) (G : h.Ns mainGlobals mg)
    (a : PySem.W.nsIn K mainGlobals x = some (some (.ref f))) (l : K.lookup f = some ⟨oc, od, .func (PySem.W.fnOf x x (defArgs st) (defBody st) (defScope st) .none kV doc pm an cdv ct), osl⟩)
    (c : PySem.W.codeIn K cdv x = true) (k : PySem.W.keepIn K (.ref f) = true)
    (hb : ∀ (kV doc pm : Value) (an : Option Addr) (cdv ct : Value) (us : List Value), us.length = ps.length → bindArgs (PySem.W.fnOf x x (defArgs st) (defBody st) (defScope st) .none kV doc pm an cdv ct) ⟨us, []⟩ = pure (ps.zip us)) : ∃ f fd, Def K mg x st ps f fd := by
  have F := fun_mk (st := st) l c k
  exact ⟨f, _, F, F.binds hb, PySem.W.mg_of X G a⟩
theorem const_mk {K : PySem.W.Frag} {h : Heap} {mg : Str → Option Value} {x : Str} {u : Value} {v : V} (X : K.In h) (G : h.Ns mainGlobals mg) (a : PySem.W.nsIn K mainGlobals x = some (some u)) (r : RelV v u) : ∃ u, mg x = some u ∧ RelV v u := ⟨u, PySem.W.mg_of X G a, r⟩

section
variable {σ : L2.St} {H : Hp} {i : Nat} {v x y : V} {ta tb te : TE} {b : Bool} {K : PySem.W.Frag} {t u c : TT} {Q : VK} {QB : Bool → Hp → Prop} {QA : List V → Hp → Prop} {D : Ends} {s1 s2 : TS} {tr : TA} {r : R2}
theorem rd_var (h : σ[i]? = some (some v)) (q : Q v H) : tVar i σ H Q := ⟨v, h, q⟩
theorem rd_c (q : Q v H) : tC v σ H Q := q
theorem rd_op (q : ta σ H fun x H1 => tb σ H1 fun y H2 => r x y H2 Q) : tOp r ta tb σ H Q := q
theorem rd_un {r : V → Hp → VK → Prop} (q : ta σ H fun x H1 => r x H1 Q) : tUn r ta σ H Q := q
theorem rd_U {g : Int → V} {a : Int} (q : Q (g a) H) : rU g (.int a) H Q := ⟨a, rfl, q⟩
theorem rd_I0 {g : Int → Int → V} {a b : Int} (q : Q (g a b) H) : rI0 g (.int a) (.int b) H Q := ⟨a, b, rfl, rfl, q⟩
theorem rd_I {C : Int → Int → Prop} {g : Int → Int → V} {a b : Int} (hc : C a b) (q : Q (g a b) H) : rI C g (.int a) (.int b) H Q := ⟨a, b, rfl, rfl, hc, q⟩
theorem rd_eq (h : scal x y = true) (q : Q (.bl (decide (x = y))) H) : rEq x y H Q := ⟨h, q⟩
theorem rd_ne (h : scal x y = true) (q : Q (.bl (!decide (x = y))) H) : rNe x y H Q := ⟨h, q⟩
theorem rd_k {P : Bool → Prop} (q : P b) : ∃ k, V.bl b = V.bl k ∧ P k := ⟨b, rfl, q⟩
theorem rd_test (q : te σ H fun x H' => ∃ k, x = .bl k ∧ QB k H') : tTest te σ H QB := q
theorem rd_B (q : te σ H fun x H' => ∃ k, x = .bl k ∧ QB k H') : tB te σ H QB := q
theorem rd_not (q : t σ H fun c H1 => QB (!c) H1) : tNot t σ H QB := q
theorem rd_notV (q : te σ H fun x H1 => ∃ c, x = .bl c ∧ Q (.bl (!c)) H1) : tNotV te σ H Q := q
theorem rd_and (q : t σ H fun c H1 => if c = true then u σ H1 QB else QB false H1) : tAnd t u σ H QB := q
theorem rd_or (q : t σ H fun c H1 => if c = true then QB true H1 else u σ H1 QB) : tOr t u σ H QB := q
theorem rd_andV (q : ta σ H fun x H1 => ∃ c, x = .bl c ∧ if c = true then tb σ H1 Q else Q (.bl false) H1) : tAndV ta tb σ H Q := q
theorem rd_orV (q : ta σ H fun x H1 => ∃ c, x = .bl c ∧ if c = true then Q (.bl true) H1 else tb σ H1 Q) : tOrV ta tb σ H Q := q
theorem rd_if (q : t σ H fun c H1 => if c = true then ta σ H1 Q else tb σ H1 Q) : tIf t ta tb σ H Q := q
theorem rd_chain {r' : R2} {tc : TE} (q : ta σ H fun x H1 => tb σ H1 fun y H2 => r x y H2 fun z H3 => ∃ k, z = .bl k ∧ if k = true then tc σ H3 fun w H4 => r' y w H4 Q else Q (.bl false) H3) : tChain r r' ta tb tc σ H Q := q
theorem rd_seq (q : s1 { D with nx := s2 D } σ H) : tSeq s1 s2 D σ H := q
theorem rd_next (q : D.nx σ H) : tNext D σ H := q
theorem rd_asg {g : TG} (q : te σ H fun x H1 => g x σ H1 D.nx) : tAsg te g D σ H := q
theorem rd_name {R : L2.St → Hp → Prop} (q : R (σ.set i (some v)) H) : gName i v σ H R := q
theorem rd_sub {to ti : TE} {ts : TSet} {R : L2.St → Hp → Prop} (q : to σ H fun o H1 => ti σ H1 fun i H2 => ts o i v H2 fun H3 => R σ H3) : gSub to ti ts v σ H R := q
theorem rd_gcons {g : TG} {gs : TGs} {R : L2.St → Hp → Prop} {vs : List V} (q : g v σ H fun σ' H' => gs vs σ' H' R) : gCons g gs (v :: vs) σ H R := ⟨v, vs, rfl, q⟩
theorem rd_gnil {R : L2.St → Hp → Prop} (q : R σ H) : gNil [] σ H R := ⟨rfl, q⟩
theorem rd_gtup {a : Addr} {xs : List V} {n : Nat} {gs : TGs} {R : L2.St → Hp → Prop} (h : H a = some (.tup xs)) (hn : xs.length = n) (q : gs xs σ H R) : gTup K n gs (.ref a) σ H R := ⟨a, xs, rfl, SqT.of h, hn, q⟩
theorem rd_ret (q : te σ H D.rt) : tRet te D σ H := q
theorem rd_drop (q : te σ H fun _ H1 => D.nx σ H1) : tDrop te D σ H := q
theorem rd_ifS (q : t σ H fun b H1 => if b = true then s1 D σ H1 else s2 D σ H1) : tIfS t s1 s2 D σ H := q
theorem rd_aug {ti : TIp} (h : σ[i]? = some (some v)) (q : te σ H fun y H1 => ti v y H1 fun z H2 => D.nx (σ.set i (some z)) H2) : tAug i te ti D σ H := ⟨v, h, q⟩
theorem rd_nil (q : QA [] H) : tNil σ H QA := q
theorem rd_cons (q : ta σ H fun x H1 => tr σ H1 fun xs H2 => QA (x :: xs) H2) : tCons ta tr σ H QA := q
theorem rd_CB {r : List V → Hp → VK → Prop} (q : tr σ H fun vs H1 => r vs H1 Q) : tCB r tr σ H Q := q
theorem rd_BM {Ty : String} {r : V → List V → Hp → VK → Prop} (q : ta σ H fun x H1 => tyV K Ty x H1 ∧ tr σ H1 fun xs H2 => r x xs H2 Q) : tBM K Ty r ta tr σ H Q := q
theorem rd_call {sp : Sp} {E : XK} (q : tr σ H fun vs H1 => sp vs H1 Q E) : tCall sp [] E tr σ H Q := by
  show tr σ H fun vs H1 => sp (vs ++ []) H1 Q E
  have e : (fun vs H1 => sp (vs ++ []) H1 Q E) = fun vs H1 => sp vs H1 Q E := by
    funext vs H1
    rw [List.append_nil]
  rw [e]
  exact q
theorem rd_tup (q : tr σ H fun xs H1 => xs.length ≤ sizeLine ∧ ∀ p, H1 p = none → Q (.ref p) (upd H1 p (.tup xs))) : tTup tr σ H Q := q
theorem rd_lst (q : tr σ H fun xs H1 => xs.length ≤ sizeLine ∧ ∀ p, H1 p = none → Q (.ref p) (upd H1 p (.lst xs))) : tLst tr σ H Q := q
theorem rd_ixL {p : Addr} {xs : List V} {a : Int} (h : SqL K H p xs) (e : atI xs a = some v) (q : Q v H) : rIxL K (.ref p) (.int a) H Q := ⟨p, xs, a, v, rfl, rfl, h, e, q⟩
theorem rd_ixT {p : Addr} {xs : List V} {a : Int} (h : H p = some (.tup xs)) (e : atI xs a = some v) (q : Q v H) : rIxT K (.ref p) (.int a) H Q := ⟨p, xs, a, v, rfl, rfl, SqT.of h, e, q⟩
theorem rd_ixS {z : Str} {a : Int} {c : Nat} (hz : z.length ≤ sizeLine) (e : atI z.cps.toList a = some c) (q : Q (.str ⟨#[c]⟩) H) : rIxS (.str z) (.int a) H Q := ⟨z, a, c, rfl, rfl, hz, e, q⟩
theorem rd_setL {p : Addr} {xs : List V} {a : Int} {j : Nat} {R : Hp → Prop} (h : H p = some (.lst xs)) (e : ixN xs.length a = some j) (q : R (upd H p (.lst (xs.set j v)))) : rSetL (.ref p) (.int a) v H R := ⟨p, xs, a, j, rfl, rfl, h, e, q⟩
/-- a new object: only that all stands as it stood, and where it is -/
theorem rd_new {p : Addr} {o : HO} {R : Hp → Prop} (np : H p = none) (q : ∀ H', Same H H' → H' p = some o → R H') : R (upd H p o) :=
  q _ (fun a u e => by rw [upd_ne (ne_of_none e np)]; exact e) upd_same
end

/-! built-in calls under names of their own -/
def rLenQ (K : PySem.W.Frag) : List V → Hp → VK → Prop := fun xs H Q => ∃ p ys, xs = [.ref p] ∧ (SqL K H p ys ∨ SqT K H p ys) ∧ Q (.int ys.length) H
def rLenZ : List V → Hp → VK → Prop := fun xs H Q => ∃ z, xs = [.str z] ∧ z.length ≤ sizeLine ∧ Q (.int z.length) H
def rIntQ : List V → Hp → VK → Prop := fun xs H Q => ∃ i, xs = [.int i] ∧ Q (.int i) H
def rAbsQ : List V → Hp → VK → Prop := fun xs H Q => ∃ i, xs = [.int i] ∧ Q (.int (if i < 0 then -i else i)) H
def rStrQ : List V → Hp → VK → Prop := fun xs H Q => ∃ i, xs = [.int i] ∧ i.natAbs.log2 < 1920 ∧ Q (.str (toString i)) H
def rTupQ (K : PySem.W.Frag) : List V → Hp → VK → Prop := fun xs H Q => ∃ p ys, xs = [.ref p] ∧ SqL K H p ys ∧ ∀ l, H l = none → Q (.ref l) (upd H l (.tup ys))
def rLstQ (K : PySem.W.Frag) : List V → Hp → VK → Prop := fun xs H Q => ∃ p ys, xs = [.ref p] ∧ (SqL K H p ys ∨ SqT K H p ys) ∧ ∀ l, H l = none → Q (.ref l) (upd H l (.lst ys))
def rMinQ : List V → Hp → VK → Prop := fun xs H Q => ∃ i j, xs = [.int i, .int j] ∧ Q (.int (if j < i then j else i)) H
def rSgnQ : R2 := fun x y H Q => ∃ (c : Nat) (z : Str), x = .str ⟨#[c]⟩ ∧ y = .str z ∧ Q (.bl (decide (c ∈ z.cps.toList))) H
section
variable {X : Cx}
theorem call_lenQ : CallR X (.builtin "len") (rLenQ X.K) := call_len_seq
theorem call_lenZ : CallR X (.builtin "len") rLenZ := call_len_str
theorem call_intQ : CallR X (.type "int") rIntQ := fun pins s σ H xs us Q I r h => call_int1 pins s σ H xs us Q I r (.inl h)
theorem call_absQ : CallR X (.builtin "abs") rAbsQ := call_abs
theorem call_strQ : CallR X (.type "str") rStrQ := call_str_int
theorem call_tupQ : CallR X (.type "tuple") (rTupQ X.K) := fun pins s σ H xs us Q I r h => call_tuple_of pins s σ H xs us Q I r (by
  obtain ⟨p, ys, e, h1, h2⟩ := h
  exact ⟨p, ys, e, .inl ⟨h1, h2⟩⟩)
theorem call_lstQ : CallR X (.type "list") (rLstQ X.K) := call_list_of
theorem call_minQ (hc : X.calm = true) : CallR X (.builtin "min") rMinQ := call_min2 hc
theorem op_sgnQ : OpR X (compareOp .In) rSgnQ := op_in_sign
end
section
variable {H H1 H2 : Hp} {p a : Addr} {xs : List V} {K : PySem.W.Frag} {Q : VK} {o : HO} {A B : Prop} {b : Bool}


theorem rd_ixM {v : V} {i : Int} (h : H p = some (.lst xs)) (e : atI xs i = some v) (q : Q v H) : rIxL K (.ref p) (.int i) H Q := ⟨p, xs, i, v, rfl, rfl, SqL.of h, e, q⟩

theorem rd_lenT (h : H p = some (.tup xs)) (q : Q (.int xs.length) H) : rLenQ K [.ref p] H Q := ⟨p, xs, rfl, .inr (SqT.of h), q⟩
theorem rd_lenL (h : H p = some (.lst xs)) (q : Q (.int xs.length) H) : rLenQ K [.ref p] H Q := ⟨p, xs, rfl, .inl (SqL.of h), q⟩
theorem rd_lenZ {z : Str} (hz : z.length ≤ sizeLine) (q : Q (.int z.length) H) : rLenZ [.str z] H Q := ⟨z, rfl, hz, q⟩
theorem rd_intQ {i : Int} (q : Q (.int i) H) : rIntQ [.int i] H Q := ⟨i, rfl, q⟩
theorem rd_absQ {i : Int} (q : Q (.int (if i < 0 then -i else i)) H) : rAbsQ [.int i] H Q := ⟨i, rfl, q⟩
theorem rd_minQ {i j : Int} (q : Q (.int (if j < i then j else i)) H) : rMinQ [.int i, .int j] H Q := ⟨i, j, rfl, q⟩
theorem rd_strQ {i : Int} (h0 : 0 ≤ i) (h1 : i < 10) (q : Q (.str (toString i)) H) : rStrQ [.int i] H Q := ⟨i, rfl, Nat.lt_of_le_of_lt (Nat.log2_le_self _) (by omega), q⟩
theorem rd_tupQ (h : H p = some (.lst xs)) (q : ∀ l, H l = none → Q (.ref l) (upd H l (.tup xs))) : rTupQ K [.ref p] H Q := ⟨p, xs, rfl, SqL.of h, q⟩
theorem rd_lstL (h : H p = some (.lst xs)) (q : ∀ l, H l = none → Q (.ref l) (upd H l (.lst xs))) : rLstQ K [.ref p] H Q := ⟨p, xs, rfl, .inl (SqL.of h), q⟩
theorem rd_sgn {c : Nat} {z : Str} (q : Q (.bl (decide (c ∈ z.cps.toList))) H) : rSgnQ (.str ⟨#[c]⟩) (.str z) H Q := ⟨c, z, rfl, rfl, q⟩
theorem rd_isiT {T : String} (h : H p = some (.tup xs)) (e : kitB "tuple" T = some b) (q : Q (.bl b) H) : rIsi K [.ref p, .ty T] H Q := ⟨_, _, _, _, b, rfl, .ty T, .base (.tup h), kit_ty e, q⟩
theorem rd_isiL {T : String} (h : H p = some (.lst xs)) (e : kitB "list" T = some b) (q : Q (.bl b) H) : rIsi K [.ref p, .ty T] H Q := ⟨_, _, _, _, b, rfl, .ty T, .base (.lst h), kit_ty e, q⟩
theorem rd_isiI {T : String} {i : Int} (e : kitB "int" T = some b) (q : Q (.bl b) H) : rIsi K [.int i, .ty T] H Q := ⟨_, _, _, _, b, rfl, .ty T, .base (.int i), kit_ty e, q⟩
theorem rd_isiS {T : String} {z : Str} (e : kitB "str" T = some b) (q : Q (.bl b) H) : rIsi K [.str z, .ty T] H Q := ⟨_, _, _, _, b, rfl, .ty T, .base (.str z), kit_ty e, q⟩
theorem rd_isiB {T : String} {c : Bool} (e : kitB "bool" T = some b) (q : Q (.bl b) H) : rIsi K [.bl c, .ty T] H Q := ⟨_, _, _, _, b, rfl, .ty T, .base (.bl c), kit_ty e, q⟩
theorem kit_tt : kitB "tuple" "tuple" = some true := by decide +kernel
theorem kit_ll : kitB "list" "list" = some true := by decide +kernel
theorem kit_ii : kitB "int" "int" = some true := by decide +kernel
theorem kit_ib : kitB "int" "bool" = some false := by decide +kernel
theorem kit_ss : kitB "str" "str" = some true := by decide +kernel
theorem kit_bb : kitB "bool" "bool" = some true := by decide +kernel
theorem kit_bi : kitB "bool" "int" = some true := by decide +kernel
theorem iteNT (h : B) : if (!true) = true then A else B := h
theorem iteNF (h : A) : if (!false) = true then A else B := h
theorem iteD {c : Prop} [Decidable c] (hc : c) (h : A) : if decide c = true then A else B := by
  rw [decide_eq_true hc]
  exact iteT h
theorem iteE {c : Prop} [Decidable c] (hc : ¬ c) (h : B) : if decide c = true then A else B := by
  rw [decide_eq_false hc]
  exact iteF h
theorem iteN2 {c : Prop} [Decidable c] (hc : ¬ c) (h : A) : if (!decide c) = true then A else B := by
  rw [decide_eq_false hc]
  exact h
theorem back (S : Same H1 H2) (h : H1 p = some o) : H2 p = some o := S _ _ h
theorem sxx {a b : Nat} : (V.str ⟨#[a]⟩ = V.str ⟨#[b]⟩) ↔ a = b :=
  ⟨fun k => by
    have q := congrArg (fun z : Str => z.cps.toList) (V.str.inj k)
    simpa using q, fun k => by rw [k]⟩
end

section
variable {σ : L2.St} {H : Hp} {K : PySem.W.Frag} {Q : VK} {tb te : TE} {D p : Addr} {xs : List V}
theorem rd_yes {QB : Bool → Hp → Prop} (q : QB true H) : tYes σ H QB := q

theorem rd_all {bs : List Bool} (h : H p = some (.lst (bs.map V.bl))) (q : Q (.bl (bs.all id)) H) : rAll K [.ref p] H Q := ⟨p, bs, rfl, SqL.of h, q⟩
theorem rd_M1 {r : V → List V → Hp → VK → Prop} {z : Str} (q : te σ H fun y H2 => r (.str z) [y] H2 Q) : tM1 r (tC (.str z)) te σ H Q := ⟨⟨z, rfl⟩, q⟩



/-- a list's append, the list an own one -/
theorem rd_app {y : V} (h : H p = some (.lst xs)) (hz : xs.length < 1000) (q : Q .non (upd H p (.lst (xs ++ [y])))) : rAppend (.ref p) [y] H Q := ⟨p, xs, y, rfl, rfl, h, small1000 (by omega), q⟩
theorem rd_BML {t : TA} {to : TE} {r : V → List V → Hp → VK → Prop} (q : to σ H fun x H1 => (∃ p xs, x = .ref p ∧ H1 p = some (.lst xs)) ∧ t σ H1 fun vs H2 => r x vs H2 Q) (m : ∀ σ H (Q1 Q2 : VK), (∀ x H, Q1 x H → Q2 x H) → to σ H Q1 → to σ H Q2) : tBM K "list" r to t σ H Q :=
  m σ H _ _ (fun x H1 q => by
    obtain ⟨⟨p, xs, rfl, h⟩, q2⟩ := q
    exact ⟨.inl ⟨rfl, _, SqL.of h⟩, q2⟩) q
theorem rd_BMv {t : TA} {i : Nat} {r : V → List V → Hp → VK → Prop} (hv : σ[i]? = some (some (.ref p))) (h : H p = some (.lst xs)) (q : t σ H fun vs H2 => r (.ref p) vs H2 Q) : tBM K "list" r (tVar i) t σ H Q :=
  ⟨.ref p, hv, .inl ⟨rfl, _, SqL.of h⟩, q⟩
end
/-! loops and comprehensions under names of their own -/
def Fr (J : It) (g : TG) (tb : TS) (D : Ends) (σ : L2.St) (H : Hp) : Prop :=
  ∃ W : Nat → Nat → L2.St → Hp → Prop, (∃ m, W 0 m σ H) ∧ ∀ i m σ H, W i m σ H →
    (J.stop i H ∧ D.nx σ H) ∨ (J.go i H ∧ ∃ N : L2.St → Hp → Prop, (∀ σ' H', N σ' H' → ∃ m', m' < m ∧ W (i + 1) m' σ' H') ∧ ∀ x H', J.yld i H x H' → g x σ H' fun σ2 H2 => tb { D with nx := N, ct := N, bk := D.nx } σ2 H2)
def Lc (J : It) (g : TG) (tt : TT) (te : TE) (vs : List Nat) (σ : L2.St) (H0 : Hp) (Q : VK) : Prop :=
  ∀ D, H0 D = none → ∃ W : Nat → Nat → Hp → Prop, (∃ m, W 0 m (upd H0 D (.lst []))) ∧ ∀ i m H, W i m H →
    (J.stop i H ∧ Q (.ref D) H) ∨ (J.go i H ∧ ∃ Nx : Hp → Prop, (∀ H', Nx H' → ∃ m', m' < m ∧ W (i + 1) m' H') ∧ ∀ x H', J.yld i H x H' → g x (wipe σ vs) H' fun σ2 H2 => wipe σ2 vs = wipe σ vs ∧ tt σ2 H2 fun b H3 =>
      if b = true then te σ2 H3 fun y H4 => ∃ acc, H4 D = some (.lst acc) ∧ acc.length < sizeLine ∧ Nx (upd H4 D (.lst (acc ++ [y]))) else Nx H3)
def ItT (K : PySem.W.Frag) (R : It → Hp → Prop) (x : V) (H : Hp) : Prop := ∃ a, x = .ref a ∧ (∃ xs, SqT K H a xs) ∧ R (Itt K a) H
def ItL (K : PySem.W.Frag) (R : It → Hp → Prop) (x : V) (H : Hp) : Prop := ∃ a, x = .ref a ∧ (∃ xs, SqL K H a xs) ∧ R (Itl K a) H
def EnT (R : It → Hp → Prop) (vs : List V) (H : Hp) : Prop := ∃ a xs, vs = [.ref a] ∧ H a = some (.tup xs) ∧ R (Jen xs.length (fun H => H a = some (.tup xs)) (fun i => xs[i]?)) H
def EnS (R : It → Hp → Prop) (vs : List V) (H : Hp) : Prop := ∃ x, vs = [.str x] ∧ R (Jen x.cps.size (fun _ => True) (fun i => (x.cps[i]?).map fun c => V.str ⟨#[c]⟩)) H
def ZpS (R : It → Hp → Prop) (vs : List V) (H : Hp) : Prop := ∃ x y, vs = [.str x, .str y] ∧ R (Jzp x y) H
def Rg1 (R : It → Hp → Prop) (vs : List V) (H : Hp) : Prop := ∃ j : Int, vs = [.int j] ∧ -(2 ^ 62) ≤ j ∧ j < 2 ^ 62 ∧ R (Itr 0 j.toNat) H
section
variable {σ : L2.St} {H : Hp} {K : PySem.W.Frag} {Q : VK} {te : TE} {tr : TA} {p : Addr} {xs : List V} {wi : TI} {g : TG} {tt : TT} {vs : List Nat} {tb : TS} {D : Ends} {R : It → Hp → Prop}
theorem rd_for (q : wi σ H fun J H1 => Fr J g tb D σ H1) : tFor wi g tb D σ H := q
theorem rd_lc (q : wi σ H fun J H1 => Lc J g tt te vs σ H1 Q) : tLc wi g tt te vs σ H Q := q
theorem rd_iTup (q : te σ H fun x H1 => ItT K R x H1) : iTup K te σ H R := q
theorem rd_iList (q : te σ H fun x H1 => ItL K R x H1) : iList K te σ H R := q
theorem rd_iEnT (q : tr σ H fun vs H1 => EnT R vs H1) : iEnT tr σ H R := q
theorem rd_iEnS (q : tr σ H fun vs H1 => EnS R vs H1) : iEnS tr σ H R := q
theorem rd_iZpS (q : tr σ H fun vs H1 => ZpS R vs H1) : iZpS tr σ H R := q
theorem rd_iRg1 (q : tr σ H fun vs H1 => Rg1 R vs H1) : iRng1 tr σ H R := q
theorem rd_ItT (h : H p = some (.tup xs)) (q : R (Itt K p) H) : ItT K R (.ref p) H := ⟨p, rfl, ⟨xs, SqT.of h⟩, q⟩
theorem rd_ItL (h : H p = some (.lst xs)) (q : R (Itl K p) H) : ItL K R (.ref p) H := ⟨p, rfl, ⟨xs, SqL.of h⟩, q⟩
theorem rd_EnT (h : H p = some (.tup xs)) (q : R (Jen xs.length (fun H => H p = some (.tup xs)) (fun i => xs[i]?)) H) : EnT R [.ref p] H := ⟨p, xs, rfl, h, q⟩
theorem rd_EnS {x : Str} (q : R (Jen x.cps.size (fun _ => True) (fun i => (x.cps[i]?).map fun c => V.str ⟨#[c]⟩)) H) : EnS R [.str x] H := ⟨x, rfl, q⟩
theorem rd_ZpS {x y : Str} (q : R (Jzp x y) H) : ZpS R [.str x, .str y] H := ⟨x, y, rfl, q⟩
theorem rd_Rg1 {j : Int} (h : -100000 ≤ j ∧ j ≤ 100000) (q : R (Itr 0 j.toNat) H) : Rg1 R [.int j] H := ⟨j, rfl, by omega, by omega, q⟩
end
theorem fr_it {J : It} {n : Nat} {G : Hp → Prop} {Y : Nat → Hp → V → Hp → Prop} (w : Walk J n G Y) {g : TG} {tb : TS} {D : Ends} {σ : L2.St} {H : Hp} (Pv : Nat → L2.St → Hp → Prop) (h0 : Pv 0 σ H) (hG : ∀ i σ H, i ≤ n → Pv i σ H → G H)
    (hs : ∀ i x σ H H', i < n → Pv i σ H → Y i H x H' → g x σ H' fun σ2 H2 => tb { D with nx := Pv (i + 1), ct := Pv (i + 1), bk := D.nx } σ2 H2) (hd : ∀ σ H, Pv n σ H → D.nx σ H) : Fr J g tb D σ H := for_it w Pv h0 hG hs hd
theorem fr_rng {lo : Int} {n : Nat} {g : TG} {tb : TS} {D : Ends} {σ : L2.St} {H : Hp} (Pv : Nat → L2.St → Hp → Prop) (h0 : Pv 0 σ H)
    (hs : ∀ i σ H, i < n → Pv i σ H → g (.int (lo + i)) σ H fun σ2 H2 => tb { D with nx := Pv (i + 1), ct := Pv (i + 1), bk := D.nx } σ2 H2) (hd : ∀ σ H, Pv n σ H → D.nx σ H) : Fr (Itr lo n) g tb D σ H := for_range Pv h0 hs hd
/-- a comprehension whose items are told beforehand: ys -/
theorem lc_map {J : It} {n : Nat} {G : Hp → Prop} {Y : Nat → Hp → V → Hp → Prop} (w : Walk J n G Y) {g : TG} {tt : TT} {te : TE} {vs : List Nat} {σ : L2.St} {H0 : Hp} {Q : VK} (ys : List V) (hn : ys.length = n) (sm : n ≤ 1000)
    (hG : ∀ H, Same H0 H → G H)
    (hs : ∀ i x H H' (Qc : VK) (R : Hp → Prop), i < n → Same H0 H → Y i H x H' → (∀ y H4, Same H H4 → ys[i]? = some y → Qc y H4) →
      g x (wipe σ vs) H' fun σ2 H2 => wipe σ2 vs = wipe σ vs ∧ tt σ2 H2 fun b H3 => if b = true then te σ2 H3 Qc else R H3)
    (hd : ∀ H D, Same H0 H → H0 D = none → H D = some (.lst ys) → Q (.ref D) H) : Lc J g tt te vs σ H0 Q := fun D nD =>
  lc_it w (Qd := fun H => Q (.ref D) H) (fun i H => Same H0 H ∧ H D = some (.lst (ys.take i))) ⟨fun a o e => by rw [upd_ne (ne_of_none e nD)]; exact e, upd_same⟩ (fun i H _ p => hG H p.1)
    (fun i x H H' hi p y => hs i x H H' _ _ hi p.1 y fun z H4 S ez => by
      refine ⟨ys.take i, S _ _ p.2, small1000 (by rw [List.length_take]; omega), fun a o e => ?_, ?_⟩
      · rw [upd_ne (ne_of_none e nD)]
        exact S _ _ (p.1 _ _ e)
      · rw [upd_same, List.take_add_one, ez]
        rfl)
    (fun H p => hd H D p.1 nD (by rw [p.2, List.take_of_length_le (by omega)]))
theorem fr_rng0 {n : Nat} {g : TG} {tb : TS} {D : Ends} {σ : L2.St} {H : Hp} (Pv : Nat → L2.St → Hp → Prop) (h0 : Pv 0 σ H)
    (hs : ∀ (i : Nat) σ H, i < n → Pv i σ H → g (.int (i : Int)) σ H fun σ2 H2 => tb { D with nx := Pv (i + 1), ct := Pv (i + 1), bk := D.nx } σ2 H2) (hd : ∀ σ H, Pv n σ H → D.nx σ H) : Fr (Itr 0 n) g tb D σ H :=
  for_range Pv h0 (fun i σ H hi p => by
    have q := hs i σ H hi p
    rw [← Int.zero_add (i : Int)] at q
    exact q) hd
theorem rd_sl {r : V → Option Int → Option Int → Hp → VK → Prop} {te : TE} {tl th : TO} {σ : L2.St} {H : Hp} {Q : VK} (q : te σ H fun x H1 => tl σ H1 fun l H2 => th σ H2 fun u H3 => r x l u H3 Q) : tSl r te tl th σ H Q := q
theorem rd_noP {σ : L2.St} {H : Hp} {QO : Option Int → Hp → Prop} (q : QO none H) : tNoPart σ H QO := q
theorem rd_part {t : TE} {σ : L2.St} {H : Hp} {QO : Option Int → Hp → Prop} (q : t σ H fun x H1 => ∃ i, x = .int i ∧ QO (some i) H1) : tPart t σ H QO := q
theorem rd_i {i : Int} {P : Int → Prop} (q : P i) : ∃ k, V.int i = V.int k ∧ P k := ⟨i, rfl, q⟩
theorem rd_slL {K : PySem.W.Frag} {p : Addr} {xs : List V} {lo hi : Option Int} {H : Hp} {Q : VK} (h : SqL K H p xs) (q : ∀ l, H l = none → Q (.ref l) (upd H l (.lst (cutV xs lo hi)))) : rSlL K (.ref p) lo hi H Q := ⟨p, xs, rfl, h, q⟩
/-- a comprehension over a range -/
theorem walk_rng {n : Nat} : Walk (Itr 0 n) n (fun _ => True) (fun i H x H' => H' = H ∧ x = .int (i : Nat)) :=
  (walk_range (lo := 0)).mono (fun _ _ => trivial) fun i H x H' _ _ y => ⟨y.1, by rw [y.2]; show V.int (0 + (i : Int)) = _; rw [Int.zero_add]⟩
theorem new_gen {H : Hp} {p : Addr} (o : HO) (np : H p = none) : ∃ H', H' = upd H p o ∧ Same H H' ∧ H' p = some o := ⟨_, rfl, fun a u e => by rw [upd_ne (ne_of_none e np)]; exact e, upd_same⟩
theorem len1000 {xs : List V} (h : xs.length ≤ 1000) : xs.length ≤ sizeLine := Nat.le_of_lt (small1000 h)
theorem same_new {H0 H : Hp} {p : Addr} {o : HO} (S : Same H0 H) (np : H p = none) : Same H0 (upd H p o) := fun a u e => by
  have e2 := S a u e
  rw [upd_ne (ne_of_none e2 np)]
  exact e2
theorem same_mut {H0 H : Hp} {p : Addr} {o : HO} (S : Same H0 H) (np : H0 p = none) : Same H0 (upd H p o) := fun a u e => by
  rw [upd_ne (ne_of_none e np)]
  exact S a u e
theorem atI_int {α : Type} {xs : List α} {a : Int} (h0 : 0 ≤ a) (h1 : a < xs.length) : ∃ v, atI xs a = some v ∧ xs[a.toNat]? = some v ∧ v ∈ xs := by
  have hj : a.toNat < xs.length := by omega
  refine ⟨xs[a.toNat], ?_, List.getElem?_eq_getElem hj, List.getElem_mem hj⟩
  have e : a = ((a.toNat : Nat) : Int) := by omega
  have q := atI_nat (xs := xs) (j := a.toNat) (List.getElem?_eq_getElem hj)
  rw [← e] at q
  exact q
theorem atI_get {α : Type} {xs : List α} {j : Nat} (h : j < xs.length) : atI xs (j : Int) = some xs[j] := atI_nat (List.getElem?_eq_getElem h)
theorem ixN_of {n : Nat} {a : Int} {j : Nat} (e : a = (j : Int)) (h : j < n) : ixN n a = some j := by
  subst e
  unfold ixN
  rw [if_pos (by omega), if_pos (by omega), Int.toNat_natCast]

theorem fmod_in {a m : Int} (h : 0 < m) : 0 ≤ a.fmod m ∧ a.fmod m < m := by
  rw [Int.fmod_eq_emod_of_nonneg _ (by omega)]
  exact ⟨Int.emod_nonneg _ (by omega), Int.emod_lt_of_pos _ h⟩
/-! the bag of draws: at c the script's cells, at b [cells, place, buffer, seed, count] -/
def Bag (c : Addr) (ns : List Int) (b : Addr) (H : Hp) : Prop :=
  c ≠ b ∧ H c = some (.lst (ns.map V.int)) ∧ ∃ i buf seed cnt : Int, H b = some (.lst [.ref c, .int i, .int buf, .int seed, .int cnt]) ∧ 0 ≤ i
structure Wd (c : Addr) (ns : List Int) (b : Addr) (H0 H : Hp) : Prop where
  keep : ∀ a o, a ≠ b → H0 a = some o → H a = some o
  b0 : Bag c ns b H0
  b1 : Bag c ns b H
section
variable {c b p a : Addr} {ns : List Int} {H0 H H1 H2 : Hp} {o : HO} {xs : List V}
theorem Bag.ne (B : Bag c ns b H) (np : H p = none) : p ≠ b := fun e => by
  obtain ⟨_, _, i, bu, se, cn, e1, _⟩ := B
  rw [← e, np] at e1
  cases e1
theorem Bag.nec (B : Bag c ns b H) (np : H p = none) : p ≠ c := fun e => by
  obtain ⟨_, e1, _⟩ := B
  rw [← e, np] at e1
  cases e1
theorem Bag.upd (B : Bag c ns b H) (n1 : p ≠ b) (n2 : p ≠ c) : Bag c ns b (upd H p o) := by
  obtain ⟨h0, h1, i, bu, se, cn, e1, e2⟩ := B
  exact ⟨h0, by rw [upd_ne n2.symm]; exact h1, i, bu, se, cn, by rw [upd_ne n1.symm]; exact e1, e2⟩
theorem Bag.same (B : Bag c ns b H) (S : Same H H1) : Bag c ns b H1 := by
  obtain ⟨h0, h1, i, bu, se, cn, e1, e2⟩ := B
  exact ⟨h0, S _ _ h1, i, bu, se, cn, S _ _ e1, e2⟩
theorem Wd.refl (B : Bag c ns b H) : Wd c ns b H H := ⟨fun _ _ _ h => h, B, B⟩
theorem Wd.trans (w : Wd c ns b H0 H1) (w2 : Wd c ns b H1 H2) : Wd c ns b H0 H2 := ⟨fun a o n h => w2.keep a o n (w.keep a o n h), w.b0, w2.b1⟩
theorem Wd.ofSame (B : Bag c ns b H) (S : Same H H1) : Wd c ns b H H1 := ⟨fun a o _ h => S a o h, B, B.same S⟩
theorem Wd.same (w : Wd c ns b H0 H1) (S : Same H1 H2) : Wd c ns b H0 H2 := w.trans (.ofSame w.b1 S)
theorem Wd.free (w : Wd c ns b H0 H) (np : H p = none) : H0 p = none := by
  cases e : H0 p with
  | none => rfl
  | some o =>
    have n := w.b1.ne np
    rw [w.keep p o n e] at np
    cases np
theorem Wd.tup (w : Wd c ns b H0 H) (h : H0 a = some (.tup xs)) : H a = some (.tup xs) := by
  refine w.keep a _ (fun e => ?_) h
  obtain ⟨_, _, i, bu, se, cn, e1, _⟩ := w.b0
  rw [e, e1] at h
  cases h
theorem Wd.lst (w : Wd c ns b H0 H) (n : a ≠ b) (h : H0 a = some o) : H a = some o := w.keep a o n h
theorem Wd.put {i bu se cn : Int} (w : Wd c ns b H0 H) (h0 : 0 ≤ i) : Wd c ns b H0 (upd H b (.lst [.ref c, .int i, .int bu, .int se, .int cn])) :=
  ⟨fun a u n h => by rw [upd_ne n]; exact w.keep a u n h, w.b0, by
    obtain ⟨n0, n1, _⟩ := w.b1
    exact ⟨n0, by rw [upd_ne n0]; exact n1, i, bu, se, cn, upd_same, h0⟩⟩
theorem Wd.new (w : Wd c ns b H0 H) (np : H p = none) : Wd c ns b H0 (upd H p o) :=
  ⟨fun a u n h => by have q := w.keep a u n h; rw [upd_ne (ne_of_none q np)]; exact q, w.b0, w.b1.upd (w.b1.ne np) (w.b1.nec np)⟩
theorem Wd.mut (w : Wd c ns b H0 H) (np : H0 p = none) : Wd c ns b H0 (upd H p o) :=
  ⟨fun a u n h => by rw [upd_ne (ne_of_none h np)]; exact w.keep a u n h, w.b0, w.b1.upd (w.b0.ne np) (w.b0.nec np)⟩
end
/-! a list of ints against the empty list -/
theorem dp_ints {K : PySem.W.Frag} {H : Hp} : ∀ fs : List Int, DpAll K H (fs.map V.int) (fs.map PyData.int)
  | [] => .nil
  | x :: r => .cons (.int x) (dp_ints r)
theorem lay_ints : ∀ fs : List Int, PyData.canLayAll0 (fs.map PyData.int) = true ∧ PyData.depthAll (fs.map PyData.int) = 0
  | [] => ⟨rfl, rfl⟩
  | x :: r => by
    obtain ⟨h1, h2⟩ := lay_ints r
    constructor
    · show (PyData.canLay0 (.int x) && PyData.canLayAll0 (r.map PyData.int)) = true
      rw [h1]
      rfl
    · show max (PyData.depth (.int x)) (PyData.depthAll (r.map PyData.int)) = 0
      rw [h2]
      rfl
theorem shaped_ints (fs : List Int) : SeqAt.shaped (.list (fs.map PyData.int)) = true := by
  obtain ⟨h1, h2⟩ := lay_ints fs
  unfold SeqAt.shaped
  rw [Bool.and_eq_true]
  refine ⟨h1, decide_eq_true ?_⟩
  show PyData.depthAll (fs.map PyData.int) + 1 ≤ 64
  rw [h2]
  decide
theorem rd_neN {K : PySem.W.Frag} {H : Hp} {Q : VK} {p p2 : Addr} {fs : List Int} (h : H p = some (.lst (fs.map V.int))) (h2 : H p2 = some (.lst [])) (q : Q (.bl (!fs.isEmpty)) H) : rNeD K (.ref p) (.ref p2) H Q := by
  refine ⟨_, _, .lst (SqL.of h) (dp_ints fs), .lst (SqL.of h2) .nil, shaped_ints fs, by decide, ?_⟩
  cases fs with
  | nil => exact q
  | cons x r => exact q
/-- a comprehension within a def that draws: what is made so far is told by Pv -/
theorem lc_wd {c b : Addr} {ns : List Int} {J : It} {n : Nat} {G : Hp → Prop} {Y : Nat → Hp → V → Hp → Prop} (w : Walk J n G Y) {g : TG} {tt : TT} {te : TE} {vs : List Nat} {σ : L2.St} {H0 : Hp} {Q : VK} (B : Bag c ns b H0) (Pv : Nat → List V → Prop) (p0 : Pv 0 [])
    (sm : ∀ i acc, Pv i acc → acc.length < 1000) (hG : ∀ H, Wd c ns b H0 H → G H)
    (hs : ∀ i x H H' acc (Qc : VK) (R : Hp → Prop), i < n → Wd c ns b H0 H → Pv i acc → Y i H x H' → (∀ y H4, Wd c ns b H H4 → Pv (i + 1) (acc ++ [y]) → Qc y H4) → (∀ H4, Wd c ns b H H4 → Pv (i + 1) acc → R H4) →
      g x (wipe σ vs) H' fun σ2 H2 => wipe σ2 vs = wipe σ vs ∧ tt σ2 H2 fun b H3 => if b = true then te σ2 H3 Qc else R H3)
    (hd : ∀ H D acc, Wd c ns b H0 H → H0 D = none → H D = some (.lst acc) → Pv n acc → Q (.ref D) H) : Lc J g tt te vs σ H0 Q := fun D nD =>
  lc_it w (Qd := fun H => Q (.ref D) H) (fun i H => Wd c ns b H0 H ∧ ∃ acc, H D = some (.lst acc) ∧ Pv i acc) ⟨(Wd.refl B).mut nD, [], upd_same, p0⟩ (fun i H _ p => hG H p.1)
    (fun i x H H' hi p y => by
      obtain ⟨w0, acc, hD, pa⟩ := p
      have nDb : D ≠ b := B.ne nD
      refine hs i x H H' acc _ _ hi w0 pa y (fun z H4 w4 pz => ?_) (fun H4 w4 pz => ⟨w0.trans w4, acc, w4.lst nDb hD, pz⟩)
      exact ⟨acc, w4.lst nDb hD, small1000 (by have := sm i acc pa; omega), (w0.trans w4).mut nD, _, upd_same, pz⟩)
    (fun H p => by
      obtain ⟨w0, acc, hD, pa⟩ := p
      exact hd H D acc w0 nD hD pa)
/-! further walks -/
def EnL (K : PySem.W.Frag) (R : It → Hp → Prop) (vs : List V) (H : Hp) : Prop := ∃ a xs, vs = [.ref a] ∧ SqL K H a xs ∧ R (Ite K a) H
def ItS (R : It → Hp → Prop) (v : V) (H : Hp) : Prop := ∃ x, v = .str x ∧ R (Its x) H
section
variable {σ : L2.St} {H : Hp} {K : PySem.W.Frag} {Q : VK} {te : TE} {tr : TA} {p p2 : Addr} {xs ys : List V} {R : It → Hp → Prop}
theorem rd_iEnum (q : tr σ H fun vs H1 => EnL K R vs H1) : iEnum K tr σ H R := q
theorem rd_EnL (h : H p = some (.lst xs)) (q : R (Ite K p) H) : EnL K R [.ref p] H := ⟨p, xs, rfl, SqL.of h, q⟩
theorem rd_iStr (q : te σ H fun v H1 => ItS R v H1) : iStr te σ H R := q
theorem rd_ItS {x : Str} (q : R (Its x) H) : ItS R (.str x) H := ⟨x, rfl, q⟩
theorem rd_inT {x : V} (h : H p = some (.tup xs)) (fx : flatV x = true) (fs : xs.all flatV = true) (q : Q (.bl (inV x xs)) H) : rIn K false x (.ref p) H Q := ⟨p, xs, rfl, .inr (SqT.of h), fx, fs, q⟩
theorem rd_rep {k : Int} (h : H p = some (.lst xs)) (k0 : 0 ≤ k) (k1 : k ≤ 1000) (hl : xs.length ≤ 10) (q : ∀ l, H l = none → Q (.ref l) (upd H l (.lst (List.replicate k.toNat xs).flatten))) : rRep (.ref p) (.int k) H Q := by
  refine ⟨p, k, xs, rfl, rfl, h, by omega, by omega, ?_, q⟩
  have e1 : xs.length * k.toNat ≤ 10 * 1000 := Nat.mul_le_mul hl (by omega)
  exact Nat.le_trans e1 (by decide)
theorem rd_ext (h : H p = some (.lst xs)) (h2 : H p2 = some (.lst ys)) (hl : xs.length + ys.length ≤ 1000) (q : Q .non (upd H p (.lst (xs ++ ys)))) : rExtend (.ref p) [.ref p2] H Q := ⟨p, p2, xs, ys, rfl, rfl, h, h2, Nat.le_of_lt (small1000 hl), q⟩
end
end Rv
/-! the mathematics of lines over looks -/
namespace Rv
open PySem PySem.Spec PyProof.Rows L2
/-- the code of a block's sign -/
def sg (e : Int) : Nat := if e = -1 then 46 else 48 + (e.fdiv 100).toNat
def one (c : Nat) : Str := ⟨#[c]⟩
def txt (cs : List Nat) : Str := ⟨cs.toArray⟩
def codes (es : List Int) : List Nat := es.map sg
def Img (es : List Int) : Prop := 1 ≤ es.length ∧ es.length ≤ 12 ∧ ∀ e ∈ es, -1 ≤ e ∧ e ≤ 999
theorem txt_len (cs : List Nat) : (txt cs).length = cs.length := by simp [txt, Str.length]
theorem txt_cps (cs : List Nat) : (txt cs).cps.toList = cs := rfl
theorem txt_inj {a b : List Nat} (h : txt a = txt b) : a = b := by
  have q := congrArg (fun z : Str => z.cps.toList) h
  exact q
theorem sgn_inj {a b : Nat} (h : one a = one b) : a = b := by
  have q := congrArg (fun z : Str => z.cps.toList) h
  simpa [one] using q
theorem digit_txt : ∀ k : Nat, k < 10 → (Str.ofString (toString (k : Int))) = one (48 + k) := by decide +kernel
theorem digit_txtI {i : Int} (h0 : 0 ≤ i) (h1 : i < 10) : Str.ofString (toString i) = one (48 + i.toNat) := by
  obtain ⟨k, rfl⟩ : ∃ k : Nat, i = (k : Int) := ⟨i.toNat, by omega⟩
  exact digit_txt k (by omega)
theorem kind_small {e : Int} (h0 : 0 ≤ e) (h1 : e ≤ 999) : 0 ≤ e.fdiv 100 ∧ e.fdiv 100 < 10 := by
  rw [Int.fdiv_eq_ediv_of_nonneg _ (by decide)]
  omega
theorem join_sg (cs : List Nat) : Txt.join (Str.ofString "") (cs.map one) = txt cs := by
  rw [TL.join_eq]
  refine TL.ext_tl ?_
  rw [TL.tl_join]
  have go : ∀ cs : List Nat, TL.joinL (TL.tl (Str.ofString "")) ((cs.map one).map TL.tl) = cs := fun cs => by
    induction cs with
    | nil => rfl
    | cons x r ih =>
      cases r with
      | nil => rfl
      | cons y r => 
        show TL.tl (one x) ++ (TL.tl (Str.ofString "") ++ TL.joinL (TL.tl (Str.ofString "")) (((y :: r).map one).map TL.tl)) = x :: y :: r
        rw [ih]
        rfl
  exact go cs
theorem ones_sum (cs : List Nat) : ((cs.map one).map (·.length)).sum = cs.length := by
  induction cs with
  | nil => rfl
  | cons x r ih =>
    simp only [List.map_cons, List.sum_cons, List.length_cons, ih]
    show 1 + r.length = r.length + 1
    omega
/-- does a guard's sign fit -/
def fitC (s v : Nat) : Bool := if s = 45 then true else if s = 42 then !decide (v = 46) else decide (s = v)
def fitsL (gs vs : List Nat) : Bool := ((gs.zip vs).map fun p => fitC p.1 p.2).all id
def Sign (c : Nat) : Prop := c = 46 ∨ c = 42 ∨ c = 45 ∨ (48 ≤ c ∧ c ≤ 57)
theorem fits_iff {gs vs : List Nat} (hl : gs.length ≤ vs.length) : fitsL gs vs = true ↔ ∀ (k : Nat) (h : k < gs.length), fitC gs[k] (vs[k]'(by omega)) = true := by
  unfold fitsL
  rw [List.all_eq_true]
  constructor
  · intro h k hk
    refine h _ (List.mem_map.mpr ⟨(gs[k], vs[k]'(by omega)), ?_, rfl⟩)
    have hz : k < (gs.zip vs).length := by rw [List.length_zip]; omega
    have e : (gs.zip vs)[k] = (gs[k], vs[k]'(by omega)) := List.getElem_zip
    rw [← e]
    exact List.getElem_mem hz
  · intro h x hx
    obtain ⟨p, hp, rfl⟩ := List.mem_map.mp hx
    obtain ⟨k, hk, e⟩ := List.mem_iff_getElem.mp hp
    rw [List.length_zip] at hk
    rw [List.getElem_zip] at e
    rw [← e]
    exact h k (by omega)
/-- a row's words -/
def sCopy : Str := Str.ofString "copy"
def sMove : Str := Str.ofString "move"
def sClear : Str := Str.ofString "clear"
structure Ln where
  w : Str
  t : Int
  o : Int
  g : List Nat
def Ln.vals (r : Ln) : List V := [.str r.w, .int r.t, .int r.o, .str (txt r.g)]
structure LnOk (n : Nat) (r : Ln) : Prop where
  t0 : 0 ≤ r.t
  t1 : r.t < n
  word : (r.w = sClear ∧ r.o = -1) ∨ ((r.w = sCopy ∨ r.w = sMove) ∧ 0 ≤ r.o ∧ r.o < n ∧ r.o ≠ r.t)
  gl : r.g = [] ∨ r.g.length = n
  gs : ∀ c ∈ r.g, Sign c
theorem LnOk.gle {n : Nat} {r : Ln} (h : LnOk n r) : r.g.length ≤ n := by
  rcases h.gl with e | e
  · rw [e]; exact Nat.zero_le _
  · rw [e]; exact Nat.le_refl _
def fullAt (vs : List Nat) (o : Int) : Bool := !decide (vs.getD o.toNat 0 = 46)
def worksL (r : Ln) (vs : List Nat) : Bool := fitsL r.g vs && (decide (r.w = sClear) || fullAt vs r.o)
def baseL (vs : List Nat) : List Int := (List.range vs.length).map fun k => if vs.getD k 0 = 46 then -1 else (k : Int)
def origL (r : Ln) (vs : List Nat) : List Int :=
  if worksL r vs = true then (if r.w = sMove then ((baseL vs).set r.t.toNat r.o).set r.o.toNat (-1) else (baseL vs).set r.t.toNat r.o) else baseL vs
def carL (held es : List Int) : List Int := held.map fun k => if k = -1 then -1 else es.getD k.toNat 0
/-- each entry is -1 or a place -/
def Held (n : Nat) (hs : List Int) : Prop := ∀ k ∈ hs, k = -1 ∨ (0 ≤ k ∧ k < n)
theorem base_len (vs : List Nat) : (baseL vs).length = vs.length := by simp [baseL]
theorem base_held (vs : List Nat) : Held vs.length (baseL vs) := fun k hk => by
  obtain ⟨j, hj, rfl⟩ := List.mem_map.mp hk
  have q := List.mem_range.mp hj
  split
  · exact .inl rfl
  · exact .inr ⟨by omega, by omega⟩
theorem orig_len (r : Ln) (vs : List Nat) : (origL r vs).length = vs.length := by
  unfold origL
  split
  · split
    · rw [List.length_set, List.length_set, base_len]
    · rw [List.length_set, base_len]
  · exact base_len vs
theorem set_held {n : Nat} {hs : List Int} {j : Nat} {x : Int} (h : Held n hs) (hx : x = -1 ∨ (0 ≤ x ∧ x < n)) : Held n (hs.set j x) := fun k hk => by
  rcases List.mem_or_eq_of_mem_set hk with q | q
  · exact h k q
  · rw [q]; exact hx
theorem LnOk.src {n : Nat} {r : Ln} (h : LnOk n r) : r.o = -1 ∨ (0 ≤ r.o ∧ r.o < n) := by
  rcases h.word with ⟨_, e⟩ | ⟨_, e1, e2, _⟩
  · exact .inl e
  · exact .inr ⟨e1, e2⟩
theorem orig_held {r : Ln} {vs : List Nat} (h : LnOk vs.length r) : Held vs.length (origL r vs) := by
  unfold origL
  split
  · split
    · exact set_held (set_held (base_held vs) h.src) (.inl rfl)
    · exact set_held (base_held vs) h.src
  · exact base_held vs
theorem car_len (hs es : List Int) : (carL hs es).length = hs.length := by simp [carL]
theorem codes_len (es : List Int) : (codes es).length = es.length := by simp [codes]
theorem getD_mem {es : List Int} {k : Nat} (h : k < es.length) : es.getD k 0 ∈ es := by
  rw [List.getD_eq_getElem?_getD, List.getElem?_eq_getElem h]
  exact List.getElem_mem h
theorem car_img {hs es : List Int} (h : Held es.length hs) (hl : hs.length = es.length) (I : Img es) : Img (carL hs es) := by
  obtain ⟨h1, h2, h3⟩ := I
  refine ⟨by rw [car_len, hl]; exact h1, by rw [car_len, hl]; exact h2, fun e he => ?_⟩
  obtain ⟨k, hk, rfl⟩ := List.mem_map.mp he
  rcases h k hk with q | ⟨q1, q2⟩
  · rw [if_pos q]; exact ⟨by decide, by decide⟩
  · rw [if_neg (by omega)]
    exact h3 _ (getD_mem (by omega))
/-- the look behind a line, by the look and by the image -/
theorem atI_ints {es : List Int} {k : Int} (h0 : 0 ≤ k) (h1 : k < es.length) : atI (es.map V.int) k = some (.int (es.getD k.toNat 0)) := by
  obtain ⟨v, e1, e2, _⟩ := atI_int (xs := es.map V.int) h0 (by rw [List.length_map]; exact h1)
  rw [e1, ← e2, List.getElem?_map, List.getD_eq_getElem?_getD, List.getElem?_eq_getElem (by omega)]
  rfl
theorem atI_cods {cs : List Nat} {k : Int} (h0 : 0 ≤ k) (h1 : k < cs.length) : atI (txt cs).cps.toList k = some (cs.getD k.toNat 0) := by
  obtain ⟨v, e1, e2, _⟩ := atI_int (xs := cs) h0 h1
  show atI cs k = _
  rw [e1, ← e2, List.getD_eq_getElem?_getD, List.getElem?_eq_getElem (by omega)]
  rfl
theorem txt_small {cs : List Nat} (h : cs.length ≤ 1000) : (txt cs).length ≤ sizeLine := by
  rw [txt_len]
  exact Nat.le_of_lt (small1000 h)
theorem car_get {hs es : List Int} {i : Nat} (hi : i < hs.length) : ((carL hs es).map V.int)[i]? = some (.int (if hs[i] = -1 then -1 else es.getD hs[i].toNat 0)) := by
  unfold carL
  rw [List.getElem?_map, List.getElem?_map, List.getElem?_eq_getElem hi]
  rfl
theorem codes_sign {es : List Int} (I : Img es) : ∀ c ∈ codes es, Sign c := fun c hc => by
  obtain ⟨e, he, rfl⟩ := List.mem_map.mp hc
  obtain ⟨h0, h1⟩ := I.2.2 e he
  unfold sg
  by_cases z : e = -1
  · rw [if_pos z]
    exact .inl rfl
  · rw [if_neg z]
    obtain ⟨k0, k1⟩ := kind_small (e := e) (by omega) h1
    exact .inr (.inr (.inr (by omega)))
theorem look_car {hs es : List Int} (h : Held es.length hs) : codes (carL hs es) = hs.map fun k => if k = -1 then 46 else (codes es).getD k.toNat 0 := by
  unfold codes carL
  rw [List.map_map]
  refine List.map_congr_left fun k hk => ?_
  show sg (if k = -1 then -1 else es.getD k.toNat 0) = _
  rcases h k hk with q | ⟨q1, q2⟩
  · rw [if_pos q, if_pos q]; rfl
  · rw [if_neg (by omega), if_neg (by omega)]
    have hk2 : k.toNat < es.length := by omega
    rw [List.getD_eq_getElem?_getD, List.getD_eq_getElem?_getD, List.getElem?_map, List.getElem?_eq_getElem hk2]
    rfl
end Rv
/-! lines one behind the other; twice is once; lists of tuples in a heap -/
namespace Rv
open PySem PySem.Spec PyProof.Rows L2
def viewL (r : Ln) (v : List Nat) : List Nat := (origL r v).map fun k => if k = -1 then 46 else v.getD k.toNat 0
def stepL (r : Ln) (es : List Int) : List Int := carL (origL r (codes es)) es
theorem orig_held2 {r : Ln} {es : List Int} (h : LnOk es.length r) : Held es.length (origL r (codes es)) := by
  have q := orig_held (r := r) (vs := codes es) (by rw [codes_len]; exact h)
  rw [codes_len] at q
  exact q
theorem step_len (r : Ln) (es : List Int) : (stepL r es).length = es.length := by
  unfold stepL
  rw [car_len, orig_len, codes_len]
theorem step_img {r : Ln} {es : List Int} (h : LnOk es.length r) (I : Img es) : Img (stepL r es) := car_img (orig_held2 h) (by rw [orig_len, codes_len]) I
theorem codes_step {r : Ln} {es : List Int} (h : LnOk es.length r) : codes (stepL r es) = viewL r (codes es) := look_car (orig_held2 h)
theorem view_len (r : Ln) (v : List Nat) : (viewL r v).length = v.length := by
  unfold viewL
  rw [List.length_map, orig_len]
theorem car_get2 {hs es : List Int} {i : Nat} (hi : i < hs.length) : (carL hs es)[i]'(by rw [car_len]; exact hi) = if hs[i] = -1 then -1 else es.getD hs[i].toNat 0 := by
  unfold carL
  rw [List.getElem_map]
theorem getD_get {es : List Int} {k : Nat} (h : k < es.length) : es.getD k 0 = es[k] := by
  rw [List.getD_eq_getElem?_getD, List.getElem?_eq_getElem h]
  rfl
theorem getD_getN {es : List Nat} {k : Nat} (h : k < es.length) : es.getD k 0 = es[k] := by
  rw [List.getD_eq_getElem?_getD, List.getElem?_eq_getElem h]
  rfl
theorem car_assoc {as bs hs : List Int} (ha : Held bs.length as) : carL as (carL bs hs) = carL (carL as bs) hs := by
  refine List.ext_getElem (by rw [car_len, car_len, car_len]) fun i h1 h2 => ?_
  have hi : i < as.length := by rw [car_len] at h1; exact h1
  have hi2 : i < (carL as bs).length := by rw [car_len]; exact hi
  rw [car_get2 hi, car_get2 hi2, car_get2 hi]
  rcases ha _ (List.getElem_mem hi) with e | ⟨e1, e2⟩
  · rw [if_pos e, if_pos e]
    rfl
  · have hn : ¬ as[i] = -1 := by omega
    have hj : as[i].toNat < bs.length := by omega
    simp only [if_neg hn]
    rw [getD_get (show as[i].toNat < (carL bs hs).length by rw [car_len]; exact hj), car_get2 hj, getD_get hj]
theorem base_get {v : List Nat} {j : Nat} (h : j < v.length) : (baseL v)[j]'(by rw [base_len]; exact h) = if v[j] = 46 then -1 else (j : Int) := by
  unfold baseL
  rw [List.getElem_map, List.getElem_range, getD_getN h]
/-- what a line's origins are, place by place -/
theorem orig_get {r : Ln} {v : List Nat} (ok : LnOk v.length r) {j : Nat} (h : j < v.length) : (origL r v)[j]'(by rw [orig_len]; exact h) =
    if worksL r v = true then (if r.w = sMove ∧ (j : Int) = r.o then -1 else if (j : Int) = r.t then r.o else if v[j] = 46 then -1 else (j : Int)) else if v[j] = 46 then -1 else (j : Int) := by
  have t0 := ok.t0
  by_cases w : worksL r v = true
  · rw [if_pos w]
    by_cases m : r.w = sMove
    · have e : origL r v = ((baseL v).set r.t.toNat r.o).set r.o.toNat (-1) := by unfold origL; rw [if_pos w, if_pos m]
      have o0 : 0 ≤ r.o := by
        rcases ok.word with ⟨q, _⟩ | ⟨_, q, _⟩
        · rw [m] at q
          exact absurd q (by decide)
        · exact q
      have g : (origL r v)[j]'(by rw [orig_len]; exact h) = (((baseL v).set r.t.toNat r.o).set r.o.toNat (-1))[j]'(by rw [List.length_set, List.length_set, base_len]; exact h) := by congr 1
      rw [g, List.getElem_set, List.getElem_set, base_get h]
      by_cases k : r.o.toNat = j
      · have hm : r.w = sMove ∧ (j : Int) = r.o := ⟨m, by omega⟩
        rw [if_pos k, if_pos hm]
      · have hm : ¬ (r.w = sMove ∧ (j : Int) = r.o) := fun q => k (by have := q.2; omega)
        rw [if_neg k, if_neg hm]
        by_cases k2 : r.t.toNat = j
        · have k3 : (j : Int) = r.t := by omega
          rw [if_pos k2, if_pos k3]
        · have k3 : ¬ (j : Int) = r.t := by omega
          rw [if_neg k2, if_neg k3]
    · have e : origL r v = (baseL v).set r.t.toNat r.o := by unfold origL; rw [if_pos w, if_neg m]
      have g : (origL r v)[j]'(by rw [orig_len]; exact h) = ((baseL v).set r.t.toNat r.o)[j]'(by rw [List.length_set, base_len]; exact h) := by congr 1
      have hm : ¬ (r.w = sMove ∧ (j : Int) = r.o) := fun q => m q.1
      rw [g, List.getElem_set, base_get h, if_neg hm]
      by_cases k2 : r.t.toNat = j
      · have k3 : (j : Int) = r.t := by omega
        rw [if_pos k2, if_pos k3]
      · have k3 : ¬ (j : Int) = r.t := by omega
        rw [if_neg k2, if_neg k3]
  · have e : origL r v = baseL v := by unfold origL; rw [if_neg w]
    have g : (origL r v)[j]'(by rw [orig_len]; exact h) = (baseL v)[j]'(by rw [base_len]; exact h) := by congr 1
    rw [g, base_get h, if_neg w]
theorem view_get {r : Ln} {v : List Nat} {j : Nat} (h : j < v.length) : (viewL r v)[j]'(by rw [view_len]; exact h) = if (origL r v)[j]'(by rw [orig_len]; exact h) = -1 then 46 else v.getD ((origL r v)[j]'(by rw [orig_len]; exact h)).toNat 0 := by
  unfold viewL
  rw [List.getElem_map]
theorem works_full {r : Ln} {v : List Nat} (w : worksL r v = true) (c : r.w ≠ sClear) : v.getD r.o.toNat 0 ≠ 46 := by
  unfold worksL at w
  rw [decide_eq_false c, Bool.false_or, Bool.and_eq_true] at w
  have q := w.2
  unfold fullAt at q
  intro k
  rw [decide_eq_true k] at q
  cases q
/-- a line that does nothing leaves the look -/
theorem view_idle {r : Ln} {v : List Nat} (ok : LnOk v.length r) (w : ¬ worksL r v = true) : viewL r v = v := by
  refine List.ext_getElem (view_len r v) fun j h1 h2 => ?_
  rw [view_get h2, orig_get ok h2, if_neg w]
  by_cases k : v[j] = 46
  · rw [if_pos k, if_pos rfl, k]
  · rw [if_neg k, if_neg (by omega), Int.toNat_natCast, getD_getN h2]
/-- where a block is full behind the line -/
theorem view_46 {r : Ln} {v : List Nat} (ok : LnOk v.length r) {j : Nat} (h : j < v.length) : (viewL r v)[j]'(by rw [view_len]; exact h) = 46 ↔ (origL r v)[j]'(by rw [orig_len]; exact h) = -1 := by
  rw [view_get h]
  constructor
  · intro q
    by_cases k : (origL r v)[j]'(by rw [orig_len]; exact h) = -1
    · exact k
    · rw [if_neg k] at q
      rw [orig_get ok h] at q k
      exfalso
      have cl : worksL r v = true → r.o ≠ -1 → r.w ≠ sClear := fun _ o c => by
        rcases ok.word with ⟨_, e⟩ | ⟨e | e, _⟩
        · exact o e
        · rw [c] at e; exact absurd e (by decide)
        · rw [c] at e; exact absurd e (by decide)
      by_cases w : worksL r v = true
      · rw [if_pos w] at q k
        by_cases m : r.w = sMove ∧ (j : Int) = r.o
        · rw [if_pos m] at k; exact k rfl
        · rw [if_neg m] at q k
          by_cases t : (j : Int) = r.t
          · rw [if_pos t] at q k
            exact works_full w (cl w k) q
          · rw [if_neg t] at q k
            by_cases f : v[j] = 46
            · rw [if_pos f] at k; exact k rfl
            · rw [if_neg f, Int.toNat_natCast, getD_getN h] at q
              exact f q
      · rw [if_neg w] at q k
        by_cases f : v[j] = 46
        · rw [if_pos f] at k; exact k rfl
        · rw [if_neg f, Int.toNat_natCast, getD_getN h] at q
          exact f q
  · intro k
    rw [if_pos k]
/-- TWICE IS ONCE -/
theorem orig_twice {r : Ln} {v : List Nat} (ok : LnOk v.length r) : carL (origL r (viewL r v)) (origL r v) = origL r v := by
  have ok2 : LnOk (viewL r v).length r := by rw [view_len]; exact ok
  refine List.ext_getElem (by rw [car_len, orig_len, orig_len, view_len]) fun j h1 h2 => ?_
  have h : j < v.length := by rw [orig_len] at h2; exact h2
  have hv : j < (viewL r v).length := by rw [view_len]; exact h
  rw [car_get2 (by rw [orig_len]; exact hv), orig_get ok2 hv]
  have stay : (if (if (viewL r v)[j] = 46 then -1 else (j : Int)) = -1 then -1 else (origL r v).getD (if (viewL r v)[j] = 46 then -1 else (j : Int)).toNat 0) = (origL r v)[j] := by
    by_cases f : (viewL r v)[j] = 46
    · rw [if_pos f, if_pos rfl]
      exact ((view_46 ok h).mp f).symm
    · rw [if_neg f, if_neg (by omega), Int.toNat_natCast, getD_get h2]
  by_cases w2 : worksL r (viewL r v) = true
  · have w : worksL r v = true := by
      by_cases w : worksL r v = true
      · exact w
      · rw [view_idle ok w] at w2
        exact w2
    rw [if_pos w2]
    have nm : r.w ≠ sMove := fun m => by
      have o0 : 0 ≤ r.o ∧ r.o < v.length := by
        rcases ok.word with ⟨q, _⟩ | ⟨_, q1, q2, _⟩
        · rw [m] at q
          exact absurd q (by decide)
        · exact ⟨q1, q2⟩
      have f := works_full w2 (by rw [m]; decide)
      have ho : r.o.toNat < v.length := by omega
      rw [getD_getN (show r.o.toNat < (viewL r v).length by rw [view_len]; exact ho)] at f
      refine f ((view_46 ok ho).mpr ?_)
      rw [orig_get ok ho, if_pos w, if_pos ⟨m, by omega⟩]
    have hm : ¬ (r.w = sMove ∧ (j : Int) = r.o) := fun q => nm q.1
    simp only [if_neg hm]
    by_cases t : (j : Int) = r.t
    · simp only [if_pos t]
      have ej : (origL r v)[j] = r.o := by rw [orig_get ok h, if_pos w, if_neg hm, if_pos t]
      rw [ej]
      by_cases o : r.o = -1
      · rw [if_pos o, o]
      · rw [if_neg o]
        have o0 : 0 ≤ r.o ∧ r.o < v.length ∧ r.o ≠ r.t := by
          rcases ok.word with ⟨_, q⟩ | ⟨_, q1, q2, q3⟩
          · exact absurd q o
          · exact ⟨q1, q2, q3⟩
        have ho : r.o.toNat < v.length := by omega
        have ne : r.w ≠ sClear := fun c => by
          rcases ok.word with ⟨_, q⟩ | ⟨q | q, _⟩
          · exact o q
          · rw [c] at q; exact absurd q (by decide)
          · rw [c] at q; exact absurd q (by decide)
        have f := works_full w ne
        rw [getD_getN ho] at f
        have hm2 : ¬ (r.w = sMove ∧ ((r.o.toNat : Nat) : Int) = r.o) := fun q => nm q.1
        have hm3 : ¬ ((r.o.toNat : Nat) : Int) = r.t := by omega
        rw [getD_get (show r.o.toNat < (origL r v).length by rw [orig_len]; exact ho), orig_get ok ho, if_pos w, if_neg hm2, if_neg hm3, if_neg f]
        omega
    · simp only [if_neg t]
      exact stay
  · rw [if_neg w2]
    exact stay
theorem step_step {r : Ln} {es : List Int} (h : LnOk es.length r) : stepL r (stepL r es) = stepL r es := by
  have e : stepL r (stepL r es) = carL (origL r (viewL r (codes es))) (stepL r es) := by
    show carL (origL r (codes (stepL r es))) (stepL r es) = _
    rw [codes_step h]
  rw [e]
  unfold stepL
  have ok : LnOk (codes es).length r := by rw [codes_len]; exact h
  rw [car_assoc, orig_twice ok]
  have q := orig_held (r := r) (vs := viewL r (codes es)) (by rw [view_len]; exact ok)
  rw [orig_len]
  rw [view_len] at q
  exact q
theorem view_view {r : Ln} {v : List Nat} {es : List Int} (h : LnOk es.length r) (e : v = codes es) : viewL r (viewL r v) = viewL r v := by
  rw [e, ← codes_step h, ← codes_step (r := r) (es := stepL r es) (by rw [step_len]; exact h), step_step h]
/-- all positions and the last -/
def runP (p : List (List Int) × List Int) (rs : List Ln) : List (List Int) × List Int := rs.foldl (fun p r => (p.1 ++ [stepL r p.2], stepL r p.2)) p
def flowP (p : List Int × List Nat) (rs : List Ln) : List Int × List Nat := rs.foldl (fun p r => (carL (origL r p.2) p.1, viewL r p.2)) p
theorem runP_add (p) (rs : List Ln) (r : Ln) : runP p (rs ++ [r]) = ((runP p rs).1 ++ [stepL r (runP p rs).2], stepL r (runP p rs).2) := by
  unfold runP
  rw [List.foldl_append]
  rfl
theorem flowP_add (p) (rs : List Ln) (r : Ln) : flowP p (rs ++ [r]) = (carL (origL r (flowP p rs).2) (flowP p rs).1, viewL r (flowP p rs).2) := by
  unfold flowP
  rw [List.foldl_append]
  rfl
/-! lists of tuples -/
def TupsAt (H : Hp) (ps : List Addr) (vss : List (List V)) : Prop := ps.length = vss.length ∧ ∀ (i : Nat) (vs : List V), vss[i]? = some vs → ∃ p, ps[i]? = some p ∧ H p = some (.tup vs)
section
variable {H H' : Hp} {ps : List Addr} {vss : List (List V)} {p : Addr} {vs : List V} {c b : Addr} {ns : List Int}
theorem TupsAt.nil : TupsAt H [] [] := ⟨rfl, fun i vs e => by simp at e⟩
theorem TupsAt.same (S : Same H H') (h : TupsAt H ps vss) : TupsAt H' ps vss := ⟨h.1, fun i vs e => by
  obtain ⟨p, e1, e2⟩ := h.2 i vs e
  exact ⟨p, e1, S _ _ e2⟩⟩
theorem TupsAt.wd (w : Wd c ns b H H') (h : TupsAt H ps vss) : TupsAt H' ps vss := ⟨h.1, fun i vs e => by
  obtain ⟨p, e1, e2⟩ := h.2 i vs e
  exact ⟨p, e1, w.tup e2⟩⟩
/-- an object that is no tuple changes -/
theorem TupsAt.mut {a : Addr} {xs : List V} {o : HO} (ha : H a = some (.lst xs)) (h : TupsAt H ps vss) : TupsAt (upd H a o) ps vss := ⟨h.1, fun i vs e => by
  obtain ⟨p, e1, e2⟩ := h.2 i vs e
  exact ⟨p, e1, by rw [upd_ne (ne_of e2 ha (by intro z; cases z))]; exact e2⟩⟩
theorem TupsAt.app (h : TupsAt H ps vss) (hp : H p = some (.tup vs)) : TupsAt H (ps ++ [p]) (vss ++ [vs]) := ⟨by rw [List.length_append, List.length_append, h.1]; rfl, fun i us e => by
  by_cases k : i < vss.length
  · rw [List.getElem?_append_left k] at e
    obtain ⟨q, e1, e2⟩ := h.2 i us e
    exact ⟨q, by rw [List.getElem?_append_left (by rw [h.1]; exact k)]; exact e1, e2⟩
  · rw [List.getElem?_append_right (by omega)] at e
    have hi : i - vss.length = 0 := by
      have := (List.getElem?_eq_some_iff.mp e).1
      simp at this
      omega
    rw [hi] at e
    have e3 : vs = us := by simpa using e
    refine ⟨p, ?_, e3 ▸ hp⟩
    rw [List.getElem?_append_right (by rw [h.1]; omega), h.1, hi]
    rfl⟩
theorem TupsAt.get (h : TupsAt H ps vss) {i : Nat} (hi : i < vss.length) : ∃ p, ps[i]? = some p ∧ H p = some (.tup vss[i]) := h.2 i _ (List.getElem?_eq_getElem hi)
theorem TupsAt.take (h : TupsAt H ps vss) (k : Nat) : TupsAt H (ps.take k) (vss.take k) := ⟨by rw [List.length_take, List.length_take, h.1], fun i vs e => by
  have hi : i < k := by
    have := (List.getElem?_eq_some_iff.mp e).1
    rw [List.length_take] at this
    omega
  rw [List.getElem?_take_of_lt hi] at e
  obtain ⟨q, e1, e2⟩ := h.2 i vs e
  exact ⟨q, by rw [List.getElem?_take_of_lt hi]; exact e1, e2⟩⟩
theorem TupsAt.drop (h : TupsAt H ps vss) (k : Nat) : TupsAt H (ps.drop k) (vss.drop k) := ⟨by rw [List.length_drop, List.length_drop, h.1], fun i vs e => by
  rw [List.getElem?_drop] at e
  obtain ⟨q, e1, e2⟩ := h.2 _ vs e
  exact ⟨q, by rw [List.getElem?_drop]; exact e1, e2⟩⟩
theorem TupsAt.rep (h : TupsAt H ps vss) (hp : H p = some (.tup vs)) : ∀ m : Nat, TupsAt H (ps ++ List.replicate m p) (vss ++ List.replicate m vs)
  | 0 => by simpa using h
  | m + 1 => by
    have q := (TupsAt.rep h hp m).app hp
    rw [List.append_assoc, List.append_assoc] at q
    have e1 : List.replicate m p ++ [p] = List.replicate (m + 1) p := by rw [List.replicate_succ']
    have e2 : List.replicate m vs ++ [vs] = List.replicate (m + 1) vs := by rw [List.replicate_succ']
    rw [e1, e2] at q
    exact q
end
def rows (rs : List Ln) : List (List V) := rs.map Ln.vals
def imgs (ess : List (List Int)) : List (List V) := ess.map fun es => es.map V.int
theorem rows_len (rs : List Ln) : (rows rs).length = rs.length := by simp [rows]
theorem rows_get {rs : List Ln} {i : Nat} (h : i < rs.length) : (rows rs)[i]? = some rs[i].vals := by
  unfold rows
  rw [List.getElem?_map, List.getElem?_eq_getElem h]
  rfl
theorem imgs_len (ess : List (List Int)) : (imgs ess).length = ess.length := by simp [imgs]
theorem imgs_app (a b : List (List Int)) : imgs (a ++ b) = imgs a ++ imgs b := List.map_append
theorem rows_app (a b : List Ln) : rows (a ++ b) = rows a ++ rows b := List.map_append
theorem imgs_rep (m : Nat) (e : List Int) : imgs (List.replicate m e) = List.replicate m (e.map V.int) := List.map_replicate
theorem rows_rep (m : Nat) (r : Ln) : rows (List.replicate m r) = List.replicate m r.vals := List.map_replicate
theorem take_ok {n : Nat} {rs : List Ln} {i : Nat} (h : ∀ r ∈ rs, LnOk n r) : ∀ r ∈ rs.take i, LnOk n r := fun r hr => h r (List.mem_of_mem_take hr)
theorem take_next {α : Type} {rs : List α} {i : Nat} (h : i < rs.length) : rs.take (i + 1) = rs.take i ++ [rs[i]] := by
  rw [List.take_add_one, List.getElem?_eq_getElem h]
  rfl
/-- what holds of a path -/
theorem runP_ok {es : List Int} (I : Img es) : ∀ (m : Nat) (rs : List Ln), rs.length = m → (∀ r ∈ rs, LnOk es.length r) →
    Img (runP ([es], es) rs).2 ∧ (runP ([es], es) rs).2.length = es.length ∧ (runP ([es], es) rs).1.getLast? = some (runP ([es], es) rs).2 ∧ (runP ([es], es) rs).1.length = rs.length + 1
  | 0, rs, e, h => by
    have e2 : rs = [] := List.length_eq_zero_iff.mp e
    subst e2
    exact ⟨I, rfl, rfl, rfl⟩
  | m + 1, rs, e, h => by
    have ne : rs ≠ [] := fun z => by rw [z] at e; cases e
    obtain ⟨init, r, rfl⟩ : ∃ init r, rs = init ++ [r] := ⟨rs.dropLast, rs.getLast ne, (List.dropLast_concat_getLast ne).symm⟩
    rw [List.length_append] at e
    obtain ⟨h1, h2, h3, h4⟩ := runP_ok I m init (by simpa using e) (fun r hr => h r (List.mem_append_left _ hr))
    have hr : LnOk (runP ([es], es) init).2.length r := by rw [h2]; exact h r (by simp)
    rw [runP_add]
    refine ⟨step_img hr h1, by rw [step_len, h2], by simp, by simp [h4]⟩
theorem flowP_ok {cs : List Nat} : ∀ (m : Nat) (rs : List Ln), rs.length = m → (flowP (baseL cs, cs) rs).1.length = cs.length ∧ (flowP (baseL cs, cs) rs).2.length = cs.length
  | 0, rs, e => by
    have e2 : rs = [] := List.length_eq_zero_iff.mp e
    subst e2
    exact ⟨base_len cs, rfl⟩
  | m + 1, rs, e => by
    have ne : rs ≠ [] := fun z => by rw [z] at e; cases e
    obtain ⟨init, r, rfl⟩ : ∃ init r, rs = init ++ [r] := ⟨rs.dropLast, rs.getLast ne, (List.dropLast_concat_getLast ne).symm⟩
    rw [List.length_append] at e
    obtain ⟨h1, h2⟩ := flowP_ok (cs := cs) m init (by simpa using e)
    rw [flowP_add]
    exact ⟨by rw [car_len, orig_len]; exact h2, by rw [view_len]; exact h2⟩
/-- the look along a run is the look of the images -/
theorem flow_look {es : List Int} (I : Img es) : ∀ (m : Nat) (rs : List Ln), rs.length = m → (∀ r ∈ rs, LnOk es.length r) → (flowP (baseL (codes es), codes es) rs).2 = codes (runP ([es], es) rs).2
  | 0, rs, e, h => by
    have e2 : rs = [] := List.length_eq_zero_iff.mp e
    subst e2
    rfl
  | m + 1, rs, e, h => by
    have ne : rs ≠ [] := fun z => by rw [z] at e; cases e
    obtain ⟨init, r, rfl⟩ : ∃ init r, rs = init ++ [r] := ⟨rs.dropLast, rs.getLast ne, (List.dropLast_concat_getLast ne).symm⟩
    rw [List.length_append] at e
    have hi : ∀ r ∈ init, LnOk es.length r := fun r hr => h r (List.mem_append_left _ hr)
    have ih := flow_look I m init (by simpa using e) hi
    obtain ⟨_, h2, _, _⟩ := runP_ok I init.length init rfl hi
    rw [flowP_add, runP_add, ih]
    exact (codes_step (by rw [h2]; exact h r (by simp))).symm
theorem runP_rep {p : List (List Int) × List Int} {r : Ln} (ok : LnOk p.2.length r) : ∀ m : Nat, runP p (List.replicate (m + 1) r) = (p.1 ++ List.replicate (m + 1) (stepL r p.2), stepL r p.2)
  | 0 => rfl
  | m + 1 => by
    have e : List.replicate (m + 1 + 1) r = List.replicate (m + 1) r ++ [r] := List.replicate_succ'
    have e2 : List.replicate (m + 1 + 1) (stepL r p.2) = List.replicate (m + 1) (stepL r p.2) ++ [stepL r p.2] := List.replicate_succ'
    rw [e, runP_add, runP_rep ok m, e2, step_step ok, List.append_assoc]
theorem runP_app (p) (as bs : List Ln) : runP p (as ++ bs) = runP (runP p as) bs := by unfold runP; rw [List.foldl_append]
theorem flowP_app (p) (as bs : List Ln) : flowP p (as ++ bs) = flowP (flowP p as) bs := by unfold flowP; rw [List.foldl_append]
theorem flowP_rep {h : List Int} {es : List Int} {r : Ln} (hl : h.length = es.length) (ok : LnOk es.length r) : ∀ m : Nat, flowP (h, codes es) (List.replicate (m + 1) r) = (carL (origL r (codes es)) h, viewL r (codes es))
  | 0 => rfl
  | m + 1 => by
    have e : List.replicate (m + 1 + 1) r = List.replicate (m + 1) r ++ [r] := List.replicate_succ'
    have okc : LnOk (codes es).length r := by rw [codes_len]; exact ok
    rw [e, flowP_add, flowP_rep hl ok m]
    have q := orig_held (r := r) (vs := viewL r (codes es)) (by rw [view_len]; exact okc)
    rw [view_len] at q
    show (carL (origL r (viewL r (codes es))) (carL (origL r (codes es)) h), viewL r (viewL r (codes es))) = _
    rw [car_assoc (by rw [orig_len]; exact q), orig_twice okc, view_view ok rfl]
/-- the last of a list of tuples -/
theorem TupsAt.last {H : Hp} {ps : List Addr} {vss : List (List V)} {vs : List V} (h : TupsAt H ps vss) (e : vss.getLast? = some vs) : ∃ init q, ps = init ++ [q] ∧ H q = some (.tup vs) := by
  rw [List.getLast?_eq_getElem?] at e
  obtain ⟨q, e1, e2⟩ := h.2 _ _ e
  have hv := (List.getElem?_eq_some_iff.mp e).1
  have hp := h.1
  have ne : ps ≠ [] := fun z => by rw [z] at hp; simp at hp; omega
  refine ⟨ps.dropLast, q, ?_, e2⟩
  have l : ps.getLast ne = q := by
    rw [← hp] at e1
    rw [List.getLast_eq_getElem]
    exact (List.getElem?_eq_some_iff.mp e1).2
  rw [← l]
  exact (List.dropLast_concat_getLast ne).symm
theorem imgs_last {ess : List (List Int)} {es : List Int} (h : ess.getLast? = some es) : (imgs ess).getLast? = some (es.map V.int) := by
  unfold imgs
  rw [List.getLast?_map, h]
  rfl
theorem base_codes {es : List Int} (I : Img es) {k : Nat} (h : k < es.length) : (baseL (codes es))[k]'(by rw [base_len, codes_len]; exact h) = if es[k] = -1 then -1 else (k : Int) := by
  rw [base_get (by rw [codes_len]; exact h)]
  have e : (codes es)[k]'(by rw [codes_len]; exact h) = sg es[k] := by
    unfold codes
    rw [List.getElem_map]
  rw [e]
  obtain ⟨h0, h1⟩ := I.2.2 _ (List.getElem_mem h)
  by_cases z : es[k] = -1
  · rw [if_pos z, if_pos (by rw [z]; rfl)]
  · have z2 : ¬ sg es[k] = 46 := by
      unfold sg
      rw [if_neg z]
      omega
    rw [if_neg z, if_neg z2]
theorem rep_flat {α : Type} (x : α) : ∀ m : Nat, (List.replicate m [x]).flatten = List.replicate m x
  | 0 => rfl
  | m + 1 => by
    rw [List.replicate_succ, List.flatten_cons, rep_flat x m]
    rfl
theorem runP_all {es : List Int} : ∀ (m : Nat) (rs : List Ln), rs.length = m → (∀ x ∈ (runP ([es], es) rs).1, x.length = es.length) ∧ (runP ([es], es) rs).2.length = es.length
  | 0, rs, e => by
    have e2 : rs = [] := List.length_eq_zero_iff.mp e
    subst e2
    exact ⟨fun x hx => by rw [List.mem_singleton.mp hx], rfl⟩
  | m + 1, rs, e => by
    have ne : rs ≠ [] := fun z => by rw [z] at e; cases e
    obtain ⟨init, r, rfl⟩ : ∃ init r, rs = init ++ [r] := ⟨rs.dropLast, rs.getLast ne, (List.dropLast_concat_getLast ne).symm⟩
    rw [List.length_append] at e
    obtain ⟨h1, h2⟩ := runP_all (es := es) m init (by simpa using e)
    rw [runP_add]
    refine ⟨fun x hx => ?_, by rw [step_len, h2]⟩
    rcases List.mem_append.mp hx with k | k
    · exact h1 x k
    · rw [List.mem_singleton.mp k, step_len, h2]
end Rv
/-! flows; texts repeated; lists of lines compared -/
namespace Rv
open PySem PySem.Spec PyProof.Rows L2
theorem fold_reps (c : Nat) : ∀ (m : Nat) (acc : Array Nat), ((List.replicate m (one c).cps).foldl (· ++ ·) acc).toList = acc.toList ++ List.replicate m c
  | 0, acc => by simp
  | m + 1, acc => by
    rw [List.replicate_succ, List.foldl_cons, fold_reps c m, Array.toList_append, List.append_assoc]
    rfl
def rMulZ : R2 := fun x y H Q => ∃ c n : Nat, x = .str (one c) ∧ y = .int n ∧ 1 ≤ n ∧ n ≤ 12 ∧ Q (.str (txt (List.replicate n c))) H
theorem op_mulZ {X : Cx} : OpR X (binaryOp .Mult) rMulZ := by
  intro pins s σ H x y v u Q I rx ry h
  obtain ⟨c, n, rfl, rfl, n1, n12, q⟩ := h
  obtain ⟨t, rfl⟩ := rx
  obtain ⟨t', rfl⟩ := ry
  have l1 : (one c).length = 1 := rfl
  have ok : MulOk (one c) (n : Int) := by
    refine ⟨?_, fun _ _ => ?_, fun _ _ => ?_⟩
    · rw [Bool.or_eq_false_iff]
      exact ⟨decide_eq_false (by omega), decide_eq_false (by omega)⟩
    · rw [l1]
      have : (1 : Int) ≤ (2 ^ 63 - 1) / (n : Int) := by
        rw [Int.le_ediv_iff_mul_le (by omega)]
        omega
      omega
    · rw [l1, Int.toNat_natCast, Nat.one_mul]
      have hn : n = 1 ∨ n = 2 ∨ n = 3 ∨ n = 4 ∨ n = 5 ∨ n = 6 ∨ n = 7 ∨ n = 8 ∨ n = 9 ∨ n = 10 ∨ n = 11 ∨ n = 12 := by omega
      rcases hn with k | k | k | k | k | k | k | k | k | k | k | k <;> rw [k] <;> decide
  have e : Txt.mul (one c) (n : Int) = txt (List.replicate n c) := by
    unfold Txt.mul
    rw [if_neg (by omega)]
    by_cases k : n = 1
    · subst k
      rfl
    · have f : ((n : Int) == 1 || (one c).length == 0) = false := by
        rw [Bool.or_eq_false_iff]
        exact ⟨beq_eq_false_iff_ne.mpr (by omega), rfl⟩
      rw [f, if_neg Bool.false_ne_true, Int.toNat_natCast]
      refine TL.ext_tl ?_
      show ((List.replicate n (one c).cps).foldl (· ++ ·) #[]).toList = List.replicate n c
      rw [fold_reps]
      rfl
  refine SB.mul ok fun t2 k => ?_
  rw [e]
  exact ⟨.str (txt (List.replicate n c)), H, I.tok _, ⟨_, rfl⟩, q⟩
theorem rd_mulZ {c n : Nat} {H : Hp} {Q : VK} (n1 : 1 ≤ n) (n12 : n ≤ 12) (q : Q (.str (txt (List.replicate n c))) H) : rMulZ (.str (one c)) (.int n) H Q := ⟨c, n, rfl, rfl, n1, n12, q⟩
theorem rd_lstRg {te : L2.St → Hp → (Int → Int → Hp → Prop) → Prop} {σ : L2.St} {H : Hp} {Q : VK} (q : te σ H fun a b H1 => RgOk a b ∧ ∀ q, H1 q = none → Q (.ref q) (upd H1 q (.lst (rgV a b)))) : tLstRg te σ H Q := q
theorem rd_tRg1 {ta : TE} {σ : L2.St} {H : Hp} {QI : Int → Int → Hp → Prop} (q : ta σ H fun x H1 => ∃ n, x = .int n ∧ QI 0 n H1) : tRg1 ta σ H QI := q
def own (n : Nat) : List Int := (List.range n).map fun (i : Nat) => (i : Int)
theorem rg_own (n : Nat) : rgV 0 (n : Int) = (own n).map V.int := by
  unfold rgV own
  rw [List.map_map]
  have e : ((n : Int) - 0).toNat = n := by omega
  rw [e]
  refine List.map_congr_left fun i _ => ?_
  show V.int (0 + (i : Int)) = V.int (i : Int)
  rw [Int.zero_add]
theorem own_len (n : Nat) : (own n).length = n := by simp [own]
theorem own_img {n : Nat} (n1 : 1 ≤ n) (n12 : n ≤ 12) : Img (own n) := by
  refine ⟨by rw [own_len]; exact n1, by rw [own_len]; exact n12, fun e he => ?_⟩
  obtain ⟨i, hi, rfl⟩ := List.mem_map.mp he
  have := List.mem_range.mp hi
  omega
theorem own_codes {n : Nat} (n12 : n ≤ 12) : codes (own n) = List.replicate n 48 := by
  refine List.eq_replicate_iff.mpr ⟨by rw [codes_len, own_len], fun b hb => ?_⟩
  obtain ⟨e, he, rfl⟩ := List.mem_map.mp hb
  obtain ⟨i, hi, rfl⟩ := List.mem_map.mp he
  have := List.mem_range.mp hi
  unfold sg
  rw [if_neg (by omega), Int.fdiv_eq_ediv_of_nonneg _ (by decide)]
  omega
theorem car_own {n : Nat} {hs : List Int} (h : Held n hs) : carL hs (own n) = hs := by
  refine List.ext_getElem (by rw [car_len]) fun i h1 h2 => ?_
  rw [car_get2 h2]
  rcases h _ (List.getElem_mem h2) with k | ⟨k1, k2⟩
  · rw [if_pos k, k]
  · rw [if_neg (by omega), getD_get (by rw [own_len]; omega)]
    unfold own
    rw [List.getElem_map, List.getElem_range]
    omega
theorem car_base {v : List Nat} {h : List Int} (hl : h.length = v.length) (hv : ∀ (j : Nat) (k : j < v.length), v[j] = 46 → h[j]'(by omega) = -1) : carL (baseL v) h = h := by
  refine List.ext_getElem (by rw [car_len, base_len, hl]) fun i h1 h2 => ?_
  have hi : i < v.length := by omega
  rw [car_get2 (by rw [base_len]; exact hi), base_get hi]
  by_cases f : v[i] = 46
  · have e : (if v[i] = 46 then (-1 : Int) else (i : Int)) = -1 := if_pos f
    rw [e, if_pos rfl]
    exact (hv i hi f).symm
  · have e : (if v[i] = 46 then (-1 : Int) else (i : Int)) = (i : Int) := if_neg f
    rw [e, if_neg (by omega), Int.toNat_natCast, getD_get h2]
theorem base_held2 (v : List Nat) : Held v.length (baseL v) := base_held v
theorem car_held {n : Nat} {as hs : List Int} (ha : Held hs.length as) (hh : Held n hs) : Held n (carL as hs) := fun k hk => by
  obtain ⟨j, hj, rfl⟩ := List.mem_map.mp hk
  rcases ha j hj with e | ⟨e1, e2⟩
  · rw [if_pos e]; exact .inl rfl
  · rw [if_neg (by omega)]
    exact hh _ (getD_mem (by omega))
/-- what holds along a flow -/
def FInv (cs : List Nat) (p : List Int × List Nat) : Prop :=
  Held cs.length p.1 ∧ ∀ (j : Nat) (k1 : j < p.1.length) (k2 : j < p.2.length), p.1[j] = -1 ↔ p.2[j] = 46
theorem flow_turn {cs v : List Nat} {h : List Int} {r : Ln} (f1 : h.length = cs.length) (f2 : v.length = cs.length) (okr : LnOk v.length r) (F : FInv cs (h, v)) : FInv cs (carL (origL r v) h, viewL r v) := by
  obtain ⟨h1, h2⟩ := F
  have h2' : ∀ (j : Nat) (k1 : j < h.length) (k2 : j < v.length), h[j] = -1 ↔ v[j] = 46 := h2
  have ho := orig_held okr
  have hoh : Held h.length (origL r v) := by rw [f1, ← f2]; exact ho
  refine ⟨car_held hoh h1, fun j k1 k2 => ?_⟩
  have k2' : j < (viewL r v).length := k2
  have kv : j < v.length := by rw [view_len] at k2'; exact k2'
  have g : (carL (origL r v) h)[j]'k1 = _ := car_get2 (es := h) (by rw [orig_len]; exact kv)
  have g2 : (viewL r v)[j]'k2' = 46 ↔ _ := view_46 okr kv
  show (carL (origL r v) h)[j]'k1 = -1 ↔ (viewL r v)[j]'k2' = 46
  rw [g2, g]
  constructor
  · intro q
    by_cases o : (origL r v)[j]'(by rw [orig_len]; exact kv) = -1
    · exact o
    · rw [if_neg o] at q
      rcases ho _ (List.getElem_mem (show j < (origL r v).length by rw [orig_len]; exact kv)) with z | ⟨z1, z2⟩
      · exact z
      · have hk : ((origL r v)[j]'(by rw [orig_len]; exact kv)).toNat < v.length := by omega
        rw [getD_get (show _ < h.length by omega)] at q
        have q2 := (h2' _ (by omega) hk).mp q
        refine g2.mp ?_
        rw [view_get kv, if_neg o, getD_getN hk]
        exact q2
  · intro q
    rw [if_pos q]
theorem flow_inv {cs : List Nat} : ∀ (m : Nat) (rs : List Ln), rs.length = m → (∀ r ∈ rs, LnOk cs.length r) → FInv cs (flowP (baseL cs, cs) rs)
  | 0, rs, e, ok => by
    have e2 : rs = [] := List.length_eq_zero_iff.mp e
    subst e2
    refine ⟨base_held cs, fun j k1 k2 => ?_⟩
    have k3 : j < cs.length := k2
    have b : (flowP (baseL cs, cs) []).1[j]'k1 = if cs[j] = 46 then -1 else (j : Int) := base_get k3
    rw [b]
    show _ ↔ cs[j] = 46
    by_cases f : cs[j] = 46
    · rw [if_pos f]
      exact ⟨fun _ => f, fun _ => rfl⟩
    · rw [if_neg f]
      exact ⟨fun q => by omega, fun q => absurd q f⟩
  | m + 1, rs, e, ok => by
    have ne : rs ≠ [] := fun z => by rw [z] at e; cases e
    obtain ⟨init, r, rfl⟩ : ∃ init r, rs = init ++ [r] := ⟨rs.dropLast, rs.getLast ne, (List.dropLast_concat_getLast ne).symm⟩
    rw [List.length_append] at e
    have ih := flow_inv (cs := cs) m init (by simpa using e) (fun r hr => ok r (List.mem_append_left _ hr))
    obtain ⟨f1, f2⟩ := flowP_ok (cs := cs) init.length init rfl
    rw [flowP_add]
    exact flow_turn f1 f2 (by rw [f2]; exact ok r (by simp)) ih
theorem flow_img {es : List Int} (I : Img es) : ∀ (m : Nat) (rs : List Ln), rs.length = m → (∀ r ∈ rs, LnOk es.length r) → carL (flowP (baseL (codes es), codes es) rs).1 es = (runP ([es], es) rs).2
  | 0, rs, e, ok => by
    have e2 : rs = [] := List.length_eq_zero_iff.mp e
    subst e2
    refine car_base (codes_len es).symm fun j k q => ?_
    have k2 : j < es.length := by rw [codes_len] at k; exact k
    have b := base_codes I k2
    rw [base_get k, if_pos q] at b
    by_cases z : es[j] = -1
    · exact z
    · rw [if_neg z] at b
      omega
  | m + 1, rs, e, ok => by
    have ne : rs ≠ [] := fun z => by rw [z] at e; cases e
    obtain ⟨init, r, rfl⟩ : ∃ init r, rs = init ++ [r] := ⟨rs.dropLast, rs.getLast ne, (List.dropLast_concat_getLast ne).symm⟩
    rw [List.length_append] at e
    have oki : ∀ r ∈ init, LnOk es.length r := fun r hr => ok r (List.mem_append_left _ hr)
    have ih := flow_img I m init (by simpa using e) oki
    have lk := flow_look I _ init rfl oki
    obtain ⟨f1, f2⟩ := flowP_ok (cs := codes es) init.length init rfl
    have okr : LnOk (flowP (baseL (codes es), codes es) init).2.length r := by rw [f2, codes_len]; exact ok r (by simp)
    have ho := orig_held okr
    rw [flowP_add, runP_add, ← car_assoc (by rw [f1, ← f2]; exact ho), ih, lk]
    rfl
/-- a flow in two parts -/
theorem flow_join {cs : List Nat} {as : List Ln} (oka : ∀ r ∈ as, LnOk cs.length r) : ∀ (m : Nat) (bs : List Ln), bs.length = m → (∀ r ∈ bs, LnOk cs.length r) →
    flowP (baseL cs, cs) (as ++ bs) = (carL (flowP (baseL (flowP (baseL cs, cs) as).2, (flowP (baseL cs, cs) as).2) bs).1 (flowP (baseL cs, cs) as).1, (flowP (baseL (flowP (baseL cs, cs) as).2, (flowP (baseL cs, cs) as).2) bs).2)
  | 0, bs, e, ok => by
    have e2 : bs = [] := List.length_eq_zero_iff.mp e
    subst e2
    obtain ⟨f1, f2⟩ := flowP_ok (cs := cs) as.length as rfl
    obtain ⟨_, h2⟩ := flow_inv (cs := cs) as.length as rfl oka
    rw [List.append_nil]
    have c := car_base (v := (flowP (baseL cs, cs) as).2) (h := (flowP (baseL cs, cs) as).1) (by omega) fun j k q => (h2 j (by omega) k).mpr q
    show flowP (baseL cs, cs) as = (carL (baseL (flowP (baseL cs, cs) as).2) (flowP (baseL cs, cs) as).1, (flowP (baseL cs, cs) as).2)
    rw [c]
  | m + 1, bs, e, ok => by
    have ne : bs ≠ [] := fun z => by rw [z] at e; cases e
    obtain ⟨init, r, rfl⟩ : ∃ init r, bs = init ++ [r] := ⟨bs.dropLast, bs.getLast ne, (List.dropLast_concat_getLast ne).symm⟩
    rw [List.length_append] at e
    have oki : ∀ r ∈ init, LnOk cs.length r := fun r hr => ok r (List.mem_append_left _ hr)
    have ih := flow_join oka m init (by simpa using e) oki
    obtain ⟨f1, f2⟩ := flowP_ok (cs := cs) as.length as rfl
    obtain ⟨g1, g2⟩ := flowP_ok (cs := (flowP (baseL cs, cs) as).2) init.length init rfl
    rw [← List.append_assoc, flowP_add, ih, flowP_add]
    have okr : LnOk (flowP (baseL (flowP (baseL cs, cs) as).2, (flowP (baseL cs, cs) as).2) init).2.length r := by rw [g2, f2]; exact ok r (by simp)
    have ho := orig_held okr
    show (carL (origL r _) (carL _ _), _) = _
    rw [car_assoc (by rw [g1, ← g2]; exact ho)]
/-- slices -/
theorem cut_to {xs : List V} {k : Nat} (h : k ≤ xs.length) : cutV xs none (some (k : Int)) = xs.take k := by
  unfold cutV
  rw [HT.sIx_none, HT.sIx_nat, Nat.min_eq_left h, List.drop_zero, Nat.sub_zero]
theorem cut_from {xs : List V} {k : Nat} (h : k ≤ xs.length) : cutV xs (some (k : Int)) none = xs.drop k := by
  unfold cutV
  rw [HT.sIx_none, HT.sIx_nat, Nat.min_eq_left h]
  exact List.take_of_length_le (by rw [List.length_drop]; exact Nat.le_refl _)
/-! deep comparisons -/
def lnD (r : Ln) : PyData := .tuple [.str r.w, .int r.t, .int r.o, .str (txt r.g)]
theorem dp_rows {K : PySem.W.Frag} {H : Hp} : ∀ (rs : List Ln) (ps : List Addr), TupsAt H ps (rows rs) → DpAll K H (ps.map V.ref) (rs.map lnD)
  | [], ps, h => by
    have e : ps = [] := List.length_eq_zero_iff.mp h.1
    subst e
    exact .nil
  | r :: rs, [], h => by
    have := h.1
    simp [rows] at this
  | r :: rs, p :: ps, h => by
    obtain ⟨p', e1, e2⟩ := h.2 0 r.vals rfl
    have e3 : p = p' := by simpa using e1
    subst e3
    refine .cons (.tup (SqT.of e2) (.cons (.str _) (.cons (.int _) (.cons (.int _) (.cons (.str _) .nil))))) (dp_rows rs ps ⟨by simpa [rows] using h.1, fun i vs e => ?_⟩)
    obtain ⟨q, q1, q2⟩ := h.2 (i + 1) vs (by simpa [rows] using e)
    exact ⟨q, by simpa using q1, q2⟩
theorem lay_ln {n : Nat} {r : Ln} (ok : LnOk n r) : PyData.canLay0 (lnD r) = true ∧ PyData.depth (lnD r) = 1 := by
  constructor
  · show (PyData.strOk r.w && (true && (true && (PyData.strOk (txt r.g) && true)))) = true
    have h1 : PyData.strOk r.w = true := by
      rcases ok.word with ⟨e, _⟩ | ⟨e | e, _⟩ <;> rw [e] <;> decide +kernel
    have h2 : PyData.strOk (txt r.g) = true := by
      unfold PyData.strOk txt
      rw [Array.all_eq_true]
      intro i hi
      have hi2 : i < r.g.length := by simpa using hi
      have := ok.gs _ (List.getElem_mem hi2)
      unfold Sign at this
      simp
      omega
    rw [h1, h2]
    rfl
  · rfl
theorem lay_rows {n : Nat} : ∀ rs : List Ln, (∀ r ∈ rs, LnOk n r) → PyData.canLayAll0 (rs.map lnD) = true ∧ PyData.depthAll (rs.map lnD) ≤ 1
  | [], _ => ⟨rfl, Nat.zero_le _⟩
  | r :: rs, h => by
    obtain ⟨a1, a2⟩ := lay_ln (h r (List.mem_cons_self ..))
    obtain ⟨b1, b2⟩ := lay_rows rs fun r hr => h r (List.mem_cons_of_mem _ hr)
    constructor
    · show (PyData.canLay0 (lnD r) && PyData.canLayAll0 (rs.map lnD)) = true
      rw [a1, b1]
      rfl
    · show max (PyData.depth (lnD r)) (PyData.depthAll (rs.map lnD)) ≤ 1
      omega
theorem rd_neRows {K : PySem.W.Frag} {H : Hp} {Q : VK} {p p2 : Addr} {ps : List Addr} {rs : List Ln} {n : Nat} (h : H p = some (.lst (ps.map V.ref))) (h2 : H p2 = some (.lst (ps.map V.ref))) (t : TupsAt H ps (rows rs)) (ok : ∀ r ∈ rs, LnOk n r) (q : Q (.bl false) H) : rNeD K (.ref p) (.ref p2) H Q := by
  obtain ⟨a1, a2⟩ := lay_rows rs ok
  have sh : SeqAt.shaped (.list (rs.map lnD)) = true := by
    unfold SeqAt.shaped
    rw [Bool.and_eq_true]
    refine ⟨a1, decide_eq_true ?_⟩
    show PyData.depthAll (rs.map lnD) + 1 ≤ 64
    omega
  refine ⟨_, _, .lst (SqL.of h) (dp_rows rs ps t), .lst (SqL.of h2) (dp_rows rs ps t), sh, sh, ?_⟩
  have e : PyData.eqv (.list (rs.map lnD)) (.list (rs.map lnD)) = true := SeqAt.eqv_refl _ a1
  rw [e]
  exact q
theorem rd_eqInts {K : PySem.W.Frag} {H : Hp} {Q : VK} {p p2 : Addr} {xs : List Int} (h : H p = some (.tup (xs.map V.int))) (h2 : H p2 = some (.tup (xs.map V.int))) (q : Q (.bl true) H) : rEqD K (.ref p) (.ref p2) H Q := by
  obtain ⟨a1, a2⟩ := lay_ints xs
  have sh : SeqAt.shaped (.tuple (xs.map PyData.int)) = true := by
    unfold SeqAt.shaped
    rw [Bool.and_eq_true]
    refine ⟨a1, decide_eq_true ?_⟩
    show PyData.depthAll (xs.map PyData.int) + 1 ≤ 64
    omega
  refine ⟨_, _, .tup (SqT.of h) (dp_ints xs), .tup (SqT.of h2) (dp_ints xs), sh, sh, ?_⟩
  have e : PyData.eqv (.tuple (xs.map PyData.int)) (.tuple (xs.map PyData.int)) = true := SeqAt.eqv_refl _ a1
  rw [e]
  exact q
end Rv
/-! the match statement: patterns of texts, names and sequences over lists -/
namespace Rv
open PySem PySem.Spec PyProof.Rows L2
abbrev Bs := List (Nat × V)
abbrev TP := V → Hp → (Option Bs → Hp → Prop) → Prop
abbrev TPs := List V → Hp → (Option Bs → Hp → Prop) → Prop
def Nm (X : Cx) (i : Nat) (n : Str) : Prop := X.N[i]? = some n ∧ Loc X.env.scope n ∧ (X.fn n = true ∨ X.env.scope.names.lookup n = some .local)
inductive BsR (X : Cx) : Bs → List (Str × Value) → Prop where
  | nil : BsR X [] []
  | cons {i : Nat} {v : V} {n : Str} {u : Value} {b : Bs} {c : List (Str × Value)} (h : Nm X i n) (r : RelV v u) (t : BsR X b c) : BsR X ((i, v) :: b) ((n, u) :: c)
theorem BsR.app {X : Cx} {a c : Bs} {b d : List (Str × Value)} (h : BsR X a b) (k : BsR X c d) : BsR X (a ++ c) (b ++ d) := by
  induction h with
  | nil => exact k
  | cons h r t ih => exact .cons h r ih
def OBs (X : Cx) : Option Bs → Option (List (Str × Value)) → Prop
  | none, none => True
  | some a, some b => BsR X a b
  | _, _ => False
def BP (X : Cx) (pins : List (Addr × Obj)) (σ : L2.St) (Q : Option Bs → Hp → Prop) (o : Option (List (Str × Value))) (s' : Shared) : Prop := ∃ ob H', Inv X pins σ H' s' ∧ OBs X ob o ∧ Q ob H'
structure PPt (X : Cx) (p : Pattern) (t : TP) : Prop where
  run : ∀ (pins : List (Addr × Obj)) (s : Shared) (σ : L2.St) (H : Hp) (v : V) (u : Value) (Q : Option Bs → Hp → Prop), Inv X pins σ H s → RelV v u → t v H Q →
    wpAny (model X.prog X.w) X.A (matchPattern p X.env u) (BP X pins σ Q) X.xe s
structure PPs (X : Cx) (ps : List Pattern) (t : TPs) : Prop where
  run : ∀ (pins : List (Addr × Obj)) (s : Shared) (σ : L2.St) (H : Hp) (vs : List V) (us : List Value) (Q : Option Bs → Hp → Prop), Inv X pins σ H s → Vals vs us → t vs H Q →
    wpAny (model X.prog X.w) X.A (matchEach ps X.env us) (BP X pins σ Q) X.xe s
section
variable {X : Cx}
def tpCap (i : Nat) : TP := fun v H Q => Q (some [(i, v)]) H
theorem pp_cap {i : Nat} {n : Str} {pos : Pos} (hi : X.N[i]? = some n) (hx : Loc X.env.scope n) (hf : X.fn n = true ∨ X.env.scope.names.lookup n = some .local := by first | exact .inl rfl | exact .inr rfl | assumption) : PPt X (.MatchAs none (some n) pos) (tpCap i) :=
  ⟨fun pins s σ H v u Q I r q => wpAny_matchPattern_Capture ⟨some [(i, v)], H, I, BsR.cons ⟨hi, hx, hf⟩ r BsR.nil, q⟩⟩
def tpStr (c : Str) : TP := fun v H Q => ∃ z, v = .str z ∧ if decide (z = c) = true then Q (some []) H else Q none H
theorem pp_str {c : Str} {j : Nat} {p1 p2 : Pos} : PPt X (.MatchValue (.Constant (.str c) j p1) p2) (tpStr c) := by
  refine ⟨fun pins s σ H v u Q I r q => wpAny_matchPattern_Value ?_⟩
  obtain ⟨z, rfl, q⟩ := q
  refine thn ((pe_str (X := X)).run pins s σ H (fun x H1 => x = .str c ∧ H1 = H) I ⟨rfl, rfl⟩) fun w s1 hw => ?_
  obtain ⟨x, H1, I1, r1, rfl, rfl⟩ := hw
  refine thn (op_eq (X := X) pins s1 σ H1 (.str z) (.str c) u w (fun x H2 => x = .bl (decide (z = c)) ∧ H2 = H1) I1 r r1 ⟨rfl, ?_, rfl⟩) fun b s2 hb => ?_
  · congr 1
    by_cases k : z = c
    · rw [decide_eq_true k, decide_eq_true (congrArg V.str k)]
    · rw [decide_eq_false k, decide_eq_false fun e => k (V.str.inj e)]
  · obtain ⟨x, H2, I2, r2, rfl, rfl⟩ := hb
    cases r2
    refine wpAny_truthy_bool ?_
    cases e : decide (z = c) with
    | true =>
      rw [e, if_pos rfl] at q
      exact ⟨some [], H2, I2, BsR.nil, q⟩
    | false =>
      rw [e, if_neg Bool.false_ne_true] at q
      exact ⟨none, H2, I2, trivial, q⟩
def tpsNil : TPs := fun vs H Q => vs = [] ∧ Q (some []) H
theorem pps_nil : PPs X [] tpsNil := by
  refine ⟨fun pins s σ H vs us Q I r q => ?_⟩
  obtain ⟨rfl, q⟩ := q
  exact wpAny_matchEach_nil ⟨some [], H, I, BsR.nil, q⟩
def tpsCons (tp : TP) (ts : TPs) : TPs := fun vs H Q => ∃ v r, vs = v :: r ∧ tp v H fun o H1 => match o with
  | none => Q none H1
  | some bs => ts r H1 fun o2 H2 => match o2 with
    | none => Q none H2
    | some more => Q (some (bs ++ more)) H2
theorem pps_cons {p : Pattern} {ps : List Pattern} {tp : TP} {ts : TPs} (hp : PPt X p tp) (hs : PPs X ps ts) (h0 : p.isStar = false := by rfl) : PPs X (p :: ps) (tpsCons tp ts) := by
  refine ⟨fun pins s σ H vs us Q I r q => ?_⟩
  obtain ⟨v, vr, rfl, q⟩ := q
  cases r with
  | cons r rr =>
    refine wpAny_matchEach_cons (thn (hp.run pins s σ H _ _ _ I r q) fun o s1 ho => ?_) h0
    obtain ⟨ob, H1, I1, e1, q1⟩ := ho
    cases ob with
    | none =>
      cases o with
      | none => exact ⟨none, H1, I1, trivial, q1⟩
      | some _ => exact e1.elim
    | some bs =>
      cases o with
      | none => exact e1.elim
      | some cs =>
        refine thn (hs.run pins s1 σ H1 _ _ _ I1 rr q1) fun o2 s2 ho2 => ?_
        obtain ⟨ob2, H2, I2, e2, q2⟩ := ho2
        cases ob2 with
        | none =>
          cases o2 with
          | none => exact ⟨none, H2, I2, trivial, q2⟩
          | some _ => exact e2.elim
        | some b2 =>
          cases o2 with
          | none => exact e2.elim
          | some c2 => exact ⟨some (bs ++ b2), H2, I2, BsR.app e1 e2, q2⟩
def tpSeq (K : PySem.W.Frag) (n : Nat) (ts : TPs) : TP := fun v H Q => ∃ a xs, v = .ref a ∧ SqL K H a xs ∧ if decide (xs.length = n) = true then ts xs H Q else Q none H
theorem pp_seq {ps : List Pattern} {ts : TPs} {n : Nat} {pos : Pos} (hc : X.calm = true) (hs : PPs X ps ts) (hn : ps.length = n := by rfl) (hstar : ps.findIdx? (·.isStar) = none := by rfl)
    (hwild : (ps.all fun p => p.isWildcard || (p.isStar && p.names.isEmpty)) = false := by rfl) : PPt X (.MatchSequence ps pos) (tpSeq X.K n ts) := by
  refine ⟨fun pins s σ H v u Q I r q => ?_⟩
  obtain ⟨a, xs, rfl, hq, q⟩ := q
  cases r
  obtain ⟨its, rv, hl, hz⟩ := I.list hq
  have hl := hl.isList
  have le := rv.length
  have fit : ((its.toArray).size : Int) < 2 ^ 63 := by
    have : its.toArray.size ≤ sizeLine := by simpa [← le] using hz
    have h2 : sizeLine < 2 ^ 62 := by decide
    omega
  have es : its.toArray.size = xs.length := by simp [le]
  cases e : decide (xs.length = n) with
  | true =>
    have e1 := of_decide_eq_true e
    rw [e, if_pos rfl] at q
    refine matchSeq_list_hit hl fit (by rw [es, e1, hn]) ?_ hstar hwild
    have I1 := I.tok (s.toks + 1 + 1)
    have ep : ps.length = its.toArray.size := by rw [es, e1, hn]
    rw [ep]
    refine PySem.W.kun_itemsOf (I.ok.hd hc) hl fun h' he => ?_
    have I2 : Inv X pins σ H { s with heap := h', toks := s.toks + 1 + 1 } := I.kept (t' := s.toks + 1 + 1) fun b o e => he b o (Nat.ne_of_lt (Heap.lt_size e)) e
    exact hs.run pins _ σ H xs _ Q I2 (by simpa using rv) q
  | false =>
    have e1 := of_decide_eq_false e
    rw [e, if_neg Bool.false_ne_true] at q
    exact matchSeq_list_miss hl fit (by rw [es, hn]; exact e1) ⟨none, H, I.tok _, trivial, q⟩ hstar hwild
def setBs : Bs → L2.St → L2.St
  | [], σ => σ
  | (i, v) :: r, σ => setBs r (σ.set i (some v))
theorem bs_run (hN : X.N.Nodup) {b : Bs} {c : List (Str × Value)} (hb : BsR X b c) {pins : List (Addr × Obj)} : ∀ {s : Shared} {σ : L2.St} {H : Hp}, Inv X pins σ H s →
    wpAny (model X.prog X.w) X.A (assignInOrder (c.map fun (n, _) => bindName X.env n) (c.map (·.2))) (fun _ s' => Inv X pins (setBs b σ) H s') X.xe s := by
  induction hb with
  | nil => exact fun I => wpAny_assignInOrder_none I
  | cons h r t ih => exact fun I => wpAny_assignInOrder_more (wpAny_bindName (store_ok I hN h.1 h.2.1 r (fun s' I' => ih I') h.2.2))
/-- the cases' reading: on a value, in a state -/
abbrev TC := V → TS
structure PCs (X : Cx) (cs : List MatchCase) (t : TC) : Prop where
  run : ∀ (first : Bool) (pins : List (Addr × Obj)) (s : Shared) (σ : L2.St) (H : Hp) (v : V) (u : Value) (D : Ends), Inv X pins σ H s → RelV v u → t v D σ H → wpAny (model X.prog X.w) X.A (matchCases cs X.env u first) (SP X pins D) X.xe s
def tcNil : TC := fun _ D σ H => D.nx σ H
theorem pcs_nil : PCs X [] tcNil := ⟨fun _ pins s σ H v u D I r q => wpAny_matchCases_nil ⟨σ, H, I, q⟩⟩
def tcGrd (tp : TP) (tg : TT) (tb : TS) (tr : TC) : TC := fun v D σ H => tp v H fun o H1 => match o with
  | none => tr v D σ H1
  | some bs => tg (setBs bs σ) H1 fun k H2 => if k = true then tb D (setBs bs σ) H2 else tr v D (setBs bs σ) H2
theorem pcs_grd {p : Pattern} {g : Expr} {body : List Stmt} {rest : List MatchCase} {tp : TP} {tg : TT} {tb : TS} {tr : TC} (hN : X.N.Nodup) (hp : PPt X p tp) (hg : PT X g tg) (hb : PSs X body tb) (hr : PCs X rest tr) :
    PCs X (⟨p, some g, body⟩ :: rest) (tcGrd tp tg tb tr) := by
  refine ⟨fun first pins s σ H v u D I r q => wpAny_matchCases_cons (thn (hp.run pins s σ H _ _ _ I r q) fun o s1 ho => ?_)⟩
  obtain ⟨ob, H1, I1, e1, q1⟩ := ho
  cases ob with
  | none =>
    cases o with
    | none => exact hr.run false pins s1 σ H1 v u D I1 r q1
    | some _ => exact e1.elim
  | some bs =>
    cases o with
    | none => exact e1.elim
    | some cs =>
      refine thn (bs_run hN e1 I1) fun _ s2 I2 => ?_
      refine thn (hg.run pins s2 _ H1 _ I2 q1) fun ok s3 h3 => ?_
      obtain ⟨H3, I3, q3⟩ := h3
      cases ok with
      | true =>
        rw [if_pos rfl] at q3
        exact hb.run pins s3 _ H3 D I3 q3
      | false =>
        rw [if_neg Bool.false_ne_true] at q3
        exact hr.run false pins s3 _ H3 v u D I3 r q3
def tMatch (te : TE) (tc : TC) : TS := fun D σ H => te σ H fun v H1 => tc v D σ H1
theorem ps_match {e : Expr} {cs : List MatchCase} {pos : Pos} {te : TE} {tc : TC} (he : PE X e te) (hc : PCs X cs tc) : PS X (.Match e cs pos) (tMatch te tc) := by
  refine ⟨fun pins s σ H D I q => wpAny_Match (thn (he.run pins s σ H _ I q) fun u s1 hu => ?_)⟩
  obtain ⟨v, H1, I1, r, q1⟩ := hu
  exact hc.run true pins s1 σ H1 v u D I1 r q1
end
/-! steps of these readings -/
section
variable {σ : L2.St} {H : Hp} {K : PySem.W.Frag} {te : TE} {tc tr : TC} {D : Ends} {tp : TP} {ts : TPs} {tg : TT} {tb : TS} {v : V} {Q : Option Bs → Hp → Prop} {a : Addr} {xs : List V} {n : Nat} {r : List V}
theorem rd_match (q : te σ H fun v H1 => tc v D σ H1) : tMatch te tc D σ H := q
/-- a case: what the pattern says, told beforehand -/
def Hit (tp : TP) (v : V) (H : Hp) (o : Option Bs) : Prop := ∀ Q : Option Bs → Hp → Prop, Q o H → tp v H Q
theorem rd_miss (h : Hit tp v H none) (q : tr v D σ H) : tcGrd tp tg tb tr v D σ H := h _ q
theorem rd_hit {bs : Bs} (h : Hit tp v H (some bs)) (q : tg (setBs bs σ) H fun k H2 => if k = true then tb D (setBs bs σ) H2 else tr v D (setBs bs σ) H2) : tcGrd tp tg tb tr v D σ H := h _ q
theorem hit_len (h : H a = some (.lst xs)) (ne : xs.length ≠ n) : Hit (tpSeq K n ts) (.ref a) H none := fun Q q => ⟨a, xs, rfl, SqL.of h, by rw [decide_eq_false ne]; exact q⟩
def HitS (ts : TPs) (vs : List V) (H : Hp) (o : Option Bs) : Prop := ∀ Q : Option Bs → Hp → Prop, Q o H → ts vs H Q
theorem hit_seq {o : Option Bs} (h : H a = some (.lst xs)) (e : xs.length = n) (k : HitS ts xs H o) : Hit (tpSeq K n ts) (.ref a) H o := fun Q q => ⟨a, xs, rfl, SqL.of h, by rw [decide_eq_true e]; exact k Q q⟩
theorem hs_nil : HitS tpsNil [] H (some []) := fun Q q => ⟨rfl, q⟩
theorem hs_cap {i : Nat} {o : Option Bs} (k : HitS ts r H o) : HitS (tpsCons (tpCap i) ts) (v :: r) H (o.map fun b => (i, v) :: b) := fun Q q => ⟨v, r, rfl, k _ (by cases o <;> exact q)⟩
theorem hs_str {c : Str} {o : Option Bs} (k : HitS ts r H o) : HitS (tpsCons (tpStr c) ts) (.str c :: r) H o := fun Q q => ⟨.str c, r, rfl, c, rfl, by
  rw [decide_eq_true rfl]
  exact k _ (by cases o <;> exact q)⟩
theorem hs_not {c z : Str} (ne : z ≠ c) : HitS (tpsCons (tpStr c) ts) (.str z :: r) H none := fun Q q => ⟨.str z, r, rfl, z, rfl, by
  rw [decide_eq_false ne]
  exact q⟩
theorem rd_tcNil (q : D.nx σ H) : tcNil v D σ H := q
end
end Rv
/-! texts of lines: words, numbers, what is read -/
namespace Rv
open PySem PySem.Spec PyProof.Rows L2
/-! rules under names of their own -/
def rAddZ : R2 := fun x y H Q => ∃ i j, x = .str i ∧ y = .str j ∧ i.length + j.length ≤ sizeLine ∧ Q (.str (i ++ j)) H
def rIsNQ : R2 := fun x y H Q => y = .non ∧ Q (.bl (decide (x = .non))) H
def rSplitQ : V → List V → Hp → VK → Prop := fun x xs H Q => ∃ a b, x = .str a ∧ xs = [.str b] ∧ (b.length == 0) = false ∧ a.length + 2 ≤ sizeLine ∧ rNewStrs (Txt.split a b) H Q
def rIntZ : List V → Hp → VK → Prop := fun xs H Q => ∃ a n, xs = [.str a] ∧ PySem.intText? a = some n ∧ a.length ≤ 640 ∧ Q (.int n) H
def tTruQ (K : PySem.W.Frag) (ta : TE) : TT := fun σ H Q => ta σ H fun x H' => ∃ k, TruV K x H' k ∧ Q k H'
def tJoin (ts : List TE) : TE := fun σ H Q => tJs ts (txt []) σ H fun out H1 => Q (.str out) H1
section
variable {X : Cx}
theorem op_addZ : OpR X (binaryOp .Add) rAddZ := op_add_str
theorem op_isNQ : OpR X (compareOp .Is) rIsNQ := op_isN
theorem call_intZ : CallR X (.type "int") rIntZ := call_int_str
theorem pt_truQ {a : Expr} {ta : TE} (ha : PE X a ta) (he : ∀ whole, isTrue a X.env whole = (do let v ← whole; standAt a.pos; holding [v] (truthy v))) : PT X a (tTruQ X.K ta) := pt_truth ha he
theorem pe_splitQ {o e : Expr} {to te : TE} {apos pos : Pos} (ho : PE X o to) (he : PE X e te) (hs : starEach [e] X.env = [(false, eval e X.env)] := by rfl) (hbase : attributeBase o "split" X.env (eval o X.env) = eval o X.env := by rfl) (hline : (apos.endLine == pos.line) = true := by rfl) :
    PE X (.Call (.Attribute o "split" apos) [e] [] pos) (tM1 rSplitQ to te) := pe_split ho he hs hbase hline
theorem pe_joinQ {v1 v2 : Expr} {rest : List Expr} {ts : List TE} {pos : Pos} (h : PJ X (v1 :: v2 :: rest) ts) : PE X (.JoinedStr (v1 :: v2 :: rest) pos) (tJoin ts) := pe_joined h
end
theorem txt_app (a b : List Nat) : txt a ++ txt b = txt (a ++ b) := SX.S_cat a b
theorem big_line {n : Nat} (h : n ≤ 1000000) : n ≤ sizeLine := Nat.le_trans h (by decide)
section
variable {σ : L2.St} {H : Hp} {K : PySem.W.Frag} {Q : VK} {te to : TE} {ts : List TE} {a b acc : List Nat} {p : Addr} {xs : List V} {QB : Bool → Hp → Prop}
theorem rd_addZ (h : a.length + b.length ≤ 1000000) (q : Q (.str (txt (a ++ b))) H) : rAddZ (.str (txt a)) (.str (txt b)) H Q := ⟨_, _, rfl, rfl, by rw [txt_len, txt_len]; exact big_line h, by rw [txt_app]; exact q⟩
theorem rd_isN {v : V} (q : Q (.bl (decide (v = .non))) H) : rIsNQ v .non H Q := ⟨rfl, q⟩
theorem rd_M1g {r : V → List V → Hp → VK → Prop} (q : to σ H fun x H1 => (∃ a, x = .str a) ∧ te σ H1 fun y H2 => r x [y] H2 Q) : tM1 r to te σ H Q := q
theorem rd_isS {z : Str} {P : Prop} (q : P) : (∃ a, V.str z = V.str a) ∧ P := ⟨⟨z, rfl⟩, q⟩
theorem rd_split {c : Nat} (hc : c < 256) (h : a.length ≤ 1000000) (q : ∀ l, H l = none → Q (.ref l) (upd H l (.lst ((TL.spl [c] 0 [] a).map fun w => V.str (txt w))))) : rSplitQ (.str (txt a)) [.str (txt [c])] H Q := by
  refine ⟨_, _, rfl, rfl, rfl, by rw [txt_len]; exact Nat.le_trans (Nat.add_le_add_right h 2) (by decide), fun l nl => ?_⟩
  have e : Txt.split (txt a) (txt [c]) = (TL.spl [c] 0 [] a).map txt := SX.split_S (by simp) (by simp [hc])
  rw [e, List.map_map]
  exact q l nl
theorem rd_truV {i : Nat} (hv : σ[i]? = some (some (.str (txt a)))) (h : a.length ≤ 1000000) (q : QB (!a.isEmpty) H) : tTruQ K (tVar i) σ H QB := by
  refine ⟨_, hv, !a.isEmpty, ⟨by rw [txt_len]; exact big_line h, ?_⟩, q⟩
  rw [txt_len]
  cases a with
  | nil => rfl
  | cons x r =>
    symm
    show ((((x :: r).length : Nat) : Int) != 0) = true
    exact bne_iff_ne.mpr (by simp; omega)
theorem rd_tjoin (q : tJs ts (txt []) σ H fun out H1 => Q (.str out) H1) : tJoin ts σ H Q := q
theorem rd_js {t : TE} {R : Str → Hp → Prop} (q : t σ H fun x H1 => ∃ y : Str, x = .str y ∧ (txt acc ++ y).length ≤ sizeLine ∧ tJs ts (txt acc ++ y) σ H1 R) : tJs (t :: ts) (txt acc) σ H R := q
theorem rd_jsn {R : Str → Hp → Prop} {z : Str} (q : R z H) : tJs [] z σ H R := q
theorem rd_jsv {R : Str → Hp → Prop} (h : acc.length + b.length ≤ 1000000) (q : tJs ts (txt (acc ++ b)) σ H R) : ∃ y : Str, V.str (txt b) = .str y ∧ (txt acc ++ y).length ≤ sizeLine ∧ tJs ts (txt acc ++ y) σ H R :=
  ⟨_, rfl, by rw [txt_app, txt_len, List.length_append]; exact big_line h, by rw [txt_app]; exact q⟩
theorem num_txt (k : Nat) : Str.ofString (toString ((k : Nat) : Int)) = txt (TL.numL k) := TL.ext_tl (TL.tl_num k)
theorem log_small {k : Nat} (h : k < 1000) : ((k : Int).natAbs).log2 < 1920 := Nat.lt_of_le_of_lt (Nat.log2_le_self _) (by omega)
theorem rd_jsS {i : Nat} {R : Str → Hp → Prop} (hv : σ[i]? = some (some (.str (txt b)))) (h : b.length ≤ 100000) (h2 : acc.length ≤ 100000) (q : tJs ts (txt (acc ++ b)) σ H R) : tJs (tFmt (tVar i) :: ts) (txt acc) σ H R :=
  rd_js ⟨_, hv, .inl ⟨_, rfl, by rw [txt_len]; exact big_line (by omega), rd_jsv (by omega) q⟩⟩
theorem rd_jsI {i k : Nat} {R : Str → Hp → Prop} (hv : σ[i]? = some (some (.int (k : Int)))) (h : k < 1000) (h2 : acc.length ≤ 100000) (q : tJs ts (txt (acc ++ TL.numL k)) σ H R) : tJs (tFmt (tVar i) :: ts) (txt acc) σ H R :=
  rd_js ⟨_, hv, .inr ⟨_, rfl, log_small h, by
    rw [num_txt]
    exact rd_jsv (by have := TL.numL_len (n := k) (k := 3) (by decide) h; omega) q⟩⟩
theorem rd_jsC {c : Str} {R : Str → Hp → Prop} (e : c = txt b) (h : b.length ≤ 100000) (h2 : acc.length ≤ 100000) (q : tJs ts (txt (acc ++ b)) σ H R) : tJs (tC (.str c) :: ts) (txt acc) σ H R := by
  subst e
  exact rd_js (rd_jsv (by omega) q)
theorem rd_strN {k : Nat} (h : k < 1000) (q : Q (.str (txt (TL.numL k))) H) : rStrQ [.int (k : Int)] H Q := ⟨_, rfl, log_small h, by rw [← num_txt] at q; exact q⟩
end
/-! the numbers of blocks, written -/
def NUMS : List (List Nat) := (List.range 12).map TL.numL
def numsV : List V := [.str (Str.ofString "0"), .str (Str.ofString "1"), .str (Str.ofString "2"), .str (Str.ofString "3"), .str (Str.ofString "4"), .str (Str.ofString "5"), .str (Str.ofString "6"), .str (Str.ofString "7"), .str (Str.ofString "8"), .str (Str.ofString "9"), .str (Str.ofString "10"), .str (Str.ofString "11")]
theorem nums_eq : NUMS = [[48], [49], [50], [51], [52], [53], [54], [55], [56], [57], [49, 48], [49, 49]] := by decide +kernel
theorem numsV_eq : numsV = NUMS.map fun w => V.str (txt w) := by
  rw [nums_eq]
  rfl
theorem in_txts {t : List Nat} (l : List (List Nat)) : inV (.str (txt t)) (l.map fun w => V.str (txt w)) = decide (t ∈ l) := by
  induction l with
  | nil => rfl
  | cons x r ih =>
    show (eqV (.str (txt x)) (.str (txt t)) || inV (.str (txt t)) (r.map fun w => V.str (txt w))) = _
    rw [ih]
    have e : eqV (.str (txt x)) (.str (txt t)) = decide (t = x) := by
      show (txt x == txt t) = _
      have : (txt x == txt t) = decide (x = t) := SX.S_beq_eq
      rw [this]
      by_cases k : x = t
      · rw [decide_eq_true k, decide_eq_true k.symm]
      · rw [decide_eq_false k, decide_eq_false (fun z => k z.symm)]
    rw [e, Bool.eq_iff_iff]
    simp
theorem flat_txts (l : List (List Nat)) : (l.map fun w => V.str (txt w)).all flatV = true := by
  rw [List.all_eq_true]
  intro x hx
  obtain ⟨w, _, rfl⟩ := List.mem_map.mp hx
  rfl
theorem rd_inNums {K : PySem.W.Frag} {H : Hp} {Q : VK} {p : Addr} {t : List Nat} (h : ∀ H, SqT K H p numsV) (q : Q (.bl (decide (t ∈ NUMS))) H) : rIn K false (.str (txt t)) (.ref p) H Q := by
  refine ⟨p, _, rfl, .inr (h H), rfl, by rw [numsV_eq]; exact flat_txts _, ?_⟩
  rw [numsV_eq, in_txts]
  exact q
theorem rd_lenNums {K : PySem.W.Frag} {H : Hp} {Q : VK} {p : Addr} (h : ∀ H, SqT K H p numsV) (q : Q (.int 12) H) : rLenQ K [.ref p] H Q := ⟨p, _, rfl, .inr (h H), q⟩
theorem num_in {k : Nat} (h : k < 12) : TL.numL k ∈ NUMS := List.mem_map.mpr ⟨k, List.mem_range.mpr h, rfl⟩
theorem of_nums {t : List Nat} (h : t ∈ NUMS) : ∃ k, k < 12 ∧ t = TL.numL k := by
  obtain ⟨k, hk, e⟩ := List.mem_map.mp h
  exact ⟨k, List.mem_range.mp hk, e.symm⟩
theorem num_len {k : Nat} (h : k < 12) : (TL.numL k).length ≤ 2 := TL.numL_len (by decide) (by omega)
theorem rd_intN {k : Nat} {H : Hp} {Q : VK} (h : k < 12) (q : Q (.int (k : Int)) H) : rIntZ [.str (txt (TL.numL k))] H Q := by
  have l := num_len h
  refine ⟨_, _, rfl, ?_, by rw [txt_len]; omega, q⟩
  rw [← num_txt]
  exact TL.int_num (by omega)
/-! what is read -/
def wClear : List Nat := [99, 108, 101, 97, 114]
def wCopy : List Nat := [99, 111, 112, 121]
def wMove : List Nat := [109, 111, 118, 101]
def wArr : List Nat := [60, 45]
def wIf : List Nat := [105, 102]
def isSg (c : Nat) : Bool := decide (c ∈ [46, 42, 45, 48, 49, 50, 51, 52, 53, 54, 55, 56, 57])
theorem sg_iff {c : Nat} : isSg c = true ↔ Sign c := by
  unfold isSg Sign
  rw [decide_eq_true_iff]
  simp
  omega
structure RdOk (r : Ln) : Prop where
  t0 : 0 ≤ r.t
  t1 : r.t < 12
  word : (r.w = sClear ∧ r.o = -1) ∨ ((r.w = sCopy ∨ r.w = sMove) ∧ 0 ≤ r.o ∧ r.o < 12 ∧ r.o ≠ r.t)
  gl : r.g.length ≤ 12
  gs : ∀ c ∈ r.g, Sign c
def tailW (g : List Nat) : List (List Nat) := if g = [] then [] else [wIf, g]
def wordsOf (r : Ln) : List (List Nat) := (if r.w = sClear then [wClear, TL.numL r.t.toNat] else [r.w.cps.toList, TL.numL r.t.toNat, wArr, TL.numL r.o.toNat]) ++ tailW r.g
def writ (r : Ln) : List Nat := TL.joinL [32] (wordsOf r)
def readW (ws : List (List Nat)) (g : List Nat) : Option Ln :=
  match ws with
  | [a, t] => if a = wClear ∧ t ∈ NUMS then some ⟨sClear, ((NumText.digitsVal t : Nat) : Int), -1, g⟩ else none
  | [a, t, x, s] => if x = wArr ∧ ((a = wCopy ∨ a = wMove) ∧ t ≠ s) ∧ (t ∈ NUMS ∧ s ∈ NUMS) then some ⟨txt a, ((NumText.digitsVal t : Nat) : Int), ((NumText.digitsVal s : Nat) : Int), g⟩ else none
  | _ => none
def isIf (ws : List (List Nat)) : Bool := decide (2 ≤ ws.length ∧ ws.getD (ws.length - 2) [] = wIf)
def readL (row : List Nat) : Option Ln :=
  let ws := TL.spl [32] 0 [] row
  if isIf ws = true then
    (if (1 ≤ (ws.getLastD []).length ∧ (ws.getLastD []).length ≤ 12) ∧ (ws.getLastD []).all isSg = true then readW (ws.take (ws.length - 2)) (ws.getLastD []) else none)
  else readW ws []
theorem sp_free {p : List Nat} (h : ∀ c ∈ p, c ≠ 32) : 32 ∉ p := fun k => h 32 k rfl
theorem num_free (k : Nat) : 32 ∉ TL.numL k := TL.numL_free (.inl (by decide))
theorem words_free {r : Ln} (ok : RdOk r) : ∀ p ∈ wordsOf r, 32 ∉ p := by
  intro p hp
  unfold wordsOf tailW at hp
  rcases List.mem_append.mp hp with k | k
  · by_cases c : r.w = sClear
    · rw [if_pos c] at k
      simp only [List.mem_cons, List.not_mem_nil, or_false] at k
      rcases k with k | k
      · rw [k]; decide
      · rw [k]; exact num_free _
    · rw [if_neg c] at k
      have hw := (ok.word.resolve_left fun z => c z.1).1
      simp only [List.mem_cons, List.not_mem_nil, or_false] at k
      rcases k with k | k | k | k
      · rw [k]
        rcases hw with z | z <;> rw [z] <;> decide
      · rw [k]; exact num_free _
      · rw [k]; decide
      · rw [k]; exact num_free _
  · by_cases g : r.g = []
    · rw [if_pos g] at k
      exact absurd k List.not_mem_nil
    · rw [if_neg g] at k
      simp only [List.mem_cons, List.not_mem_nil, or_false] at k
      rcases k with k | k
      · rw [k]; decide
      · rw [k]
        refine sp_free fun c hc => ?_
        have := ok.gs c hc
        unfold Sign at this
        omega
theorem words_ne (r : Ln) : wordsOf r ≠ [] := by
  unfold wordsOf
  by_cases c : r.w = sClear
  · rw [if_pos c]; simp
  · rw [if_neg c]; simp
theorem spl_writ {r : Ln} (ok : RdOk r) : TL.spl [32] 0 [] (writ r) = wordsOf r := TL.spl_join (words_ne r) (words_free ok)
theorem txt_wd (w : Str) : txt w.cps.toList = w := SX.S_tl w
theorem sClear_eq : sClear = txt wClear := rfl
theorem sCopy_eq : sCopy = txt wCopy := rfl
theorem sMove_eq : sMove = txt wMove := rfl
theorem read_core {r : Ln} (ok : RdOk r) : readW (if r.w = sClear then [wClear, TL.numL r.t.toNat] else [r.w.cps.toList, TL.numL r.t.toNat, wArr, TL.numL r.o.toNat]) r.g = some r := by
  have t0 := ok.t0
  have t1 := ok.t1
  have vt : ((NumText.digitsVal (TL.numL r.t.toNat) : Nat) : Int) = r.t := by rw [TL.numL_val]; omega
  obtain ⟨w, t, o, g⟩ := r
  have t0 : 0 ≤ t := t0
  have t1 : t < 12 := t1
  have vt : ((NumText.digitsVal (TL.numL t.toNat) : Nat) : Int) = t := vt
  by_cases c : w = sClear
  · have o1 : o = -1 := by
      rcases ok.word with k | k
      · exact k.2
      · rcases k.1 with z | z <;> exact absurd (z.symm.trans c) (by decide)
    show readW (if w = sClear then _ else _) g = _
    rw [if_pos c]
    show (if wClear = wClear ∧ TL.numL t.toNat ∈ NUMS then some (⟨sClear, ((NumText.digitsVal (TL.numL t.toNat) : Nat) : Int), -1, g⟩ : Ln) else none) = _
    rw [if_pos ⟨rfl, num_in (by omega)⟩, vt, c, o1]
  · obtain ⟨hw, o0, o1, o2⟩ := ok.word.resolve_left fun z => c z.1
    have o0 : 0 ≤ o := o0
    have o1 : o < 12 := o1
    have o2 : o ≠ t := o2
    have vo : ((NumText.digitsVal (TL.numL o.toNat) : Nat) : Int) = o := by rw [TL.numL_val]; omega
    show readW (if w = sClear then _ else _) g = _
    rw [if_neg c]
    have hw2 : w.cps.toList = wCopy ∨ w.cps.toList = wMove := by
      rcases hw with z | z
      · exact .inl (by rw [show w = sCopy from z]; rfl)
      · exact .inr (by rw [show w = sMove from z]; rfl)
    have nt : TL.numL t.toNat ≠ TL.numL o.toNat := fun e => by
      have := TL.numL_inj e
      omega
    show (if wArr = wArr ∧ ((w.cps.toList = wCopy ∨ w.cps.toList = wMove) ∧ TL.numL t.toNat ≠ TL.numL o.toNat) ∧ (TL.numL t.toNat ∈ NUMS ∧ TL.numL o.toNat ∈ NUMS) then some (⟨txt w.cps.toList, ((NumText.digitsVal (TL.numL t.toNat) : Nat) : Int), ((NumText.digitsVal (TL.numL o.toNat) : Nat) : Int), g⟩ : Ln) else none) = _
    rw [if_pos ⟨rfl, ⟨hw2, nt⟩, num_in (by omega), num_in (by omega)⟩, vt, vo, txt_wd]
theorem num_ne_if (k : Nat) : TL.numL k ≠ wIf := fun e => by
  have h : 105 ∈ TL.numL k := by rw [e]; decide
  exact TL.numL_free (.inr (by decide)) h
theorem read_writ {r : Ln} (ok : RdOk r) : readL (writ r) = some r := by
  unfold readL
  rw [spl_writ ok]
  have core := read_core ok
  by_cases g : r.g = []
  · have ew : wordsOf r = (if r.w = sClear then [wClear, TL.numL r.t.toNat] else [r.w.cps.toList, TL.numL r.t.toNat, wArr, TL.numL r.o.toNat]) := by
      unfold wordsOf tailW
      rw [if_pos g, List.append_nil]
    have ni : ¬ isIf (wordsOf r) = true := by
      rw [ew]
      by_cases c : r.w = sClear
      · rw [if_pos c]
        exact fun k => absurd (show wClear = wIf from (of_decide_eq_true k).2) (by decide)
      · rw [if_neg c]
        exact fun k => absurd (show wArr = wIf from (of_decide_eq_true k).2) (by decide)
    show (if isIf (wordsOf r) = true then _ else readW (wordsOf r) []) = _
    rw [if_neg ni, ew]
    rw [g] at core
    exact core
  · have gl := ok.gl
    have gp : 0 < r.g.length := List.length_pos_iff.mpr g
    have et : tailW r.g = [wIf, r.g] := if_neg g
    have hi : isIf (wordsOf r) = true ∧ (wordsOf r).getLastD [] = r.g ∧ (wordsOf r).take ((wordsOf r).length - 2) = (if r.w = sClear then [wClear, TL.numL r.t.toNat] else [r.w.cps.toList, TL.numL r.t.toNat, wArr, TL.numL r.o.toNat]) := by
      unfold wordsOf
      rw [et]
      by_cases c : r.w = sClear
      · rw [if_pos c]
        exact ⟨rfl, rfl, rfl⟩
      · rw [if_neg c]
        exact ⟨rfl, rfl, rfl⟩
    obtain ⟨h1, h2, h3⟩ := hi
    show (if isIf (wordsOf r) = true then (if (1 ≤ ((wordsOf r).getLastD []).length ∧ ((wordsOf r).getLastD []).length ≤ 12) ∧ ((wordsOf r).getLastD []).all isSg = true then readW ((wordsOf r).take ((wordsOf r).length - 2)) ((wordsOf r).getLastD []) else none) else _) = _
    have hall : r.g.all isSg = true := by
      rw [List.all_eq_true]
      exact fun c hc => sg_iff.mpr (ok.gs c hc)
    rw [if_pos h1, h2, h3, if_pos ⟨⟨gp, gl⟩, hall⟩]
    exact core
/-- lines of text, each with its newline -/
def textOf (rs : List Ln) : List Nat := (rs.map fun r => writ r ++ [10]).flatten
theorem join_flat : ∀ l : List (List Nat), TL.joinL [] l = l.flatten
  | [] => rfl
  | [p] => by
    show p = [p].flatten
    rw [List.flatten_cons, List.flatten_nil, List.append_nil]
  | p :: q :: r => by
    show p ++ ([] ++ TL.joinL [] (q :: r)) = _
    rw [List.nil_append, join_flat (q :: r)]
    rfl
theorem join_txts (l : List (List Nat)) : Txt.join (Str.ofString "") (l.map txt) = txt l.flatten := by
  have e := SX.join_S [] l
  rw [join_flat] at e
  exact e
theorem sum_flat (l : List (List Nat)) : ((l.map txt).map (·.length)).sum = l.flatten.length := by
  induction l with
  | nil => rfl
  | cons x r ih =>
    rw [List.map_cons, List.map_cons, List.sum_cons, ih, txt_len, List.flatten_cons, List.length_append]
theorem join_nl : ∀ rs : List Ln, textOf rs = TL.joinL [10] (rs.map writ ++ [[]])
  | [] => rfl
  | r :: rs => by
    have ih := join_nl rs
    show (writ r ++ [10]) ++ textOf rs = _
    rw [ih]
    cases rs with
    | nil =>
      show (writ r ++ [10]) ++ [] = writ r ++ ([10] ++ [])
      simp
    | cons x y =>
      show _ = writ r ++ ([10] ++ TL.joinL [10] ((x :: y).map writ ++ [[]]))
      rw [List.append_assoc]
theorem writ_free {r : Ln} (ok : RdOk r) : 10 ∉ writ r := by
  have hw : ∀ p ∈ wordsOf r, 10 ∉ p := by
    intro p hp
    unfold wordsOf tailW at hp
    have nf : ∀ k : Nat, 10 ∉ TL.numL k := fun k => TL.numL_free (.inl (by decide))
    rcases List.mem_append.mp hp with k | k
    · by_cases c : r.w = sClear
      · rw [if_pos c] at k
        simp only [List.mem_cons, List.not_mem_nil, or_false] at k
        rcases k with k | k
        · rw [k]; decide
        · rw [k]; exact nf _
      · rw [if_neg c] at k
        have hw := (ok.word.resolve_left fun z => c z.1).1
        simp only [List.mem_cons, List.not_mem_nil, or_false] at k
        rcases k with k | k | k | k
        · rw [k]
          rcases hw with z | z <;> rw [z] <;> decide
        · rw [k]; exact nf _
        · rw [k]; decide
        · rw [k]; exact nf _
    · by_cases g : r.g = []
      · rw [if_pos g] at k
        exact absurd k List.not_mem_nil
      · rw [if_neg g] at k
        simp only [List.mem_cons, List.not_mem_nil, or_false] at k
        rcases k with k | k
        · rw [k]; decide
        · rw [k]
          intro z
          have := ok.gs 10 z
          unfold Sign at this
          omega
  unfold writ
  have go : ∀ l : List (List Nat), (∀ p ∈ l, 10 ∉ p) → 10 ∉ TL.joinL [32] l := by
    intro l
    induction l with
    | nil => exact fun _ => List.not_mem_nil
    | cons p r ih =>
      intro h
      cases r with
      | nil => exact h p (List.mem_cons_self ..)
      | cons q r =>
        show 10 ∉ p ++ ([32] ++ TL.joinL [32] (q :: r))
        rw [List.mem_append, List.mem_append]
        rintro (k | k | k)
        · exact h p (List.mem_cons_self ..) k
        · simp at k
        · exact ih (fun z hz => h z (List.mem_cons_of_mem _ hz)) k
  exact go _ hw
theorem spl_text {rs : List Ln} (ok : ∀ r ∈ rs, RdOk r) : TL.spl [10] 0 [] (textOf rs) = rs.map writ ++ [[]] := by
  rw [join_nl]
  refine TL.spl_join (by simp) fun p hp => ?_
  rcases List.mem_append.mp hp with k | k
  · obtain ⟨r, hr, rfl⟩ := List.mem_map.mp k
    exact writ_free (ok r hr)
  · rw [List.mem_singleton.mp k]
    exact List.not_mem_nil
theorem writ_len {r : Ln} (ok : RdOk r) : (writ r).length ≤ 40 := by
  have gl := ok.gl
  have t := num_len (k := r.t.toNat) (by have := ok.t0; have := ok.t1; omega)
  unfold writ wordsOf tailW
  by_cases c : r.w = sClear
  · rw [if_pos c]
    by_cases g : r.g = []
    · rw [if_pos g]
      show (wClear ++ ([32] ++ TL.numL r.t.toNat)).length ≤ 40
      simp [wClear]; omega
    · rw [if_neg g]
      show (wClear ++ ([32] ++ (TL.numL r.t.toNat ++ ([32] ++ (wIf ++ ([32] ++ r.g)))))).length ≤ 40
      simp [wClear, wIf]; omega
  · obtain ⟨hw, o0, o1, o2⟩ := ok.word.resolve_left fun z => c z.1
    have o := num_len (k := r.o.toNat) (by omega)
    have lw : r.w.cps.toList.length = 4 := by rcases hw with z | z <;> rw [z] <;> rfl
    rw [if_neg c]
    by_cases g : r.g = []
    · rw [if_pos g]
      show (r.w.cps.toList ++ ([32] ++ (TL.numL r.t.toNat ++ ([32] ++ (wArr ++ ([32] ++ TL.numL r.o.toNat)))))).length ≤ 40
      simp only [List.length_append, lw]
      simp [wArr]; omega
    · rw [if_neg g]
      show (r.w.cps.toList ++ ([32] ++ (TL.numL r.t.toNat ++ ([32] ++ (wArr ++ ([32] ++ (TL.numL r.o.toNat ++ ([32] ++ (wIf ++ ([32] ++ r.g)))))))))).length ≤ 40
      simp only [List.length_append, lw]
      simp [wArr, wIf]; omega
/-- the text of a line, in its parts -/
theorem writ_parts {r : Ln} : writ r = (if r.w = sClear then wClear ++ ([32] ++ TL.numL r.t.toNat) else r.w.cps.toList ++ ([32] ++ (TL.numL r.t.toNat ++ ([32, 60, 45, 32] ++ TL.numL r.o.toNat)))) ++ (if r.g = [] then [] else [32, 105, 102, 32] ++ r.g) := by
  unfold writ wordsOf tailW
  by_cases c : r.w = sClear <;> by_cases g : r.g = []
  · rw [if_pos c, if_pos c, if_pos g, if_pos g, List.append_nil, List.append_nil]; rfl
  · rw [if_pos c, if_pos c, if_neg g, if_neg g]
    show wClear ++ ([32] ++ (TL.numL r.t.toNat ++ ([32] ++ (wIf ++ ([32] ++ r.g))))) = _
    simp [wIf]
  · rw [if_neg c, if_neg c, if_pos g, if_pos g, List.append_nil, List.append_nil]
    show r.w.cps.toList ++ ([32] ++ (TL.numL r.t.toNat ++ ([32] ++ (wArr ++ ([32] ++ TL.numL r.o.toNat))))) = _
    simp [wArr]
  · rw [if_neg c, if_neg c, if_neg g, if_neg g]
    show r.w.cps.toList ++ ([32] ++ (TL.numL r.t.toNat ++ ([32] ++ (wArr ++ ([32] ++ (TL.numL r.o.toNat ++ ([32] ++ (wIf ++ ([32] ++ r.g))))))))) = _
    simp [wArr, wIf]
theorem writ_small {r : Ln} (ok : RdOk r) : ∀ c ∈ writ r, c < 128 := by
  have nl : ∀ (k c : Nat), c ∈ TL.numL k → c < 128 := fun k c hc => by
    have := TL.numL_digits k c hc
    omega
  have lst : ∀ (l : List Nat), l.all (· < 128) = true → ∀ c ∈ l, c < 128 := fun l h c hc => of_decide_eq_true (List.all_eq_true.mp h c hc)
  rw [writ_parts]
  intro c hc
  rcases List.mem_append.mp hc with k | k
  · by_cases z : r.w = sClear
    · rw [if_pos z] at k
      rcases List.mem_append.mp k with k | k
      · exact lst _ (by decide) c k
      · rcases List.mem_append.mp k with k | k
        · exact lst _ (by decide) c k
        · exact nl _ c k
    · rw [if_neg z] at k
      have hw := (ok.word.resolve_left fun y => z y.1).1
      rcases List.mem_append.mp k with k | k
      · rcases hw with y | y <;> rw [y] at k <;> exact lst _ (by decide) c k
      · rcases List.mem_append.mp k with k | k
        · exact lst _ (by decide) c k
        · rcases List.mem_append.mp k with k | k
          · exact nl _ c k
          · rcases List.mem_append.mp k with k | k
            · exact lst _ (by decide) c k
            · exact nl _ c k
  · by_cases z : r.g = []
    · rw [if_pos z] at k
      exact absurd k List.not_mem_nil
    · rw [if_neg z] at k
      rcases List.mem_append.mp k with k | k
      · exact lst _ (by decide) c k
      · have := ok.gs c k
        unfold Sign at this
        omega
theorem text_len : ∀ {rs : List Ln}, (∀ r ∈ rs, RdOk r) → (textOf rs).length ≤ 41 * rs.length
  | [], _ => Nat.le_refl _
  | r :: rs, h => by
    have w := writ_len (h r (List.mem_cons_self ..))
    have ih := text_len (rs := rs) fun x hx => h x (List.mem_cons_of_mem _ hx)
    show ((writ r ++ [10]) ++ textOf rs).length ≤ _
    rw [List.length_append, List.length_append, List.length_cons]
    simp only [List.length_cons, List.length_nil]
    omega
def rJoinT (K : PySem.W.Frag) : V → List V → Hp → VK → Prop := fun x xs H Q => ∃ a p, ∃ ys : List Str, x = .str a ∧ xs = [.ref p] ∧ (SqL K H p (ys.map V.str) ∨ SqT K H p (ys.map V.str)) ∧ (ys.map (·.length)).sum + ys.length * a.length ≤ 16777216 ∧ Q (.str (Txt.join a ys)) H
theorem pe_joinT {X : Cx} {o e : Expr} {to te : TE} {apos pos : Pos} (ho : PE X o to) (he : PE X e te) (hs : starEach [e] X.env = [(false, eval e X.env)] := by rfl) (hbase : attributeBase o "join" X.env (eval o X.env) = eval o X.env := by rfl) (hline : (apos.endLine == pos.line) = true := by rfl) :
    PE X (.Call (.Attribute o "join" apos) [e] [] pos) (tM1 (rJoinT X.K) to te) := pe_join ho he hs hbase hline
theorem rd_joinT {K : PySem.W.Frag} {H : Hp} {Q : VK} {p : Addr} {ws : List (List Nat)} (h : H p = some (.lst (ws.map fun w => V.str (txt w)))) (hl : ws.flatten.length ≤ 1000000) (q : Q (.str (txt ws.flatten)) H) : rJoinT K (.str (Str.ofString "")) [.ref p] H Q := by
  refine ⟨_, p, ws.map txt, rfl, rfl, .inl (SqL.of (by rw [List.map_map]; exact h)), ?_, ?_⟩
  · rw [sum_flat]
    show _ + _ * 0 ≤ _
    omega
  · rw [join_txts]
    exact q
/-! deep comparisons of lines that are read -/
theorem lay_rd {r : Ln} (ok : RdOk r) : PyData.canLay0 (lnD r) = true ∧ PyData.depth (lnD r) = 1 := by
  constructor
  · show (PyData.strOk r.w && (true && (true && (PyData.strOk (txt r.g) && true)))) = true
    have h1 : PyData.strOk r.w = true := by
      rcases ok.word with ⟨e, _⟩ | ⟨e | e, _⟩ <;> rw [e] <;> decide +kernel
    have h2 : PyData.strOk (txt r.g) = true := by
      unfold PyData.strOk txt
      rw [Array.all_eq_true]
      intro i hi
      have hi2 : i < r.g.length := by simpa using hi
      have := ok.gs _ (List.getElem_mem hi2)
      unfold Sign at this
      simp
      omega
    rw [h1, h2]
    rfl
  · rfl
theorem rd_neLn {K : PySem.W.Frag} {H : Hp} {Q : VK} {p p2 : Addr} {r : Ln} (h : H p = some (.tup r.vals)) (h2 : H p2 = some (.tup r.vals)) (ok : RdOk r) (q : Q (.bl false) H) : rNeD K (.ref p) (.ref p2) H Q := by
  obtain ⟨a1, a2⟩ := lay_rd ok
  have sh : SeqAt.shaped (lnD r) = true := by
    unfold SeqAt.shaped
    rw [Bool.and_eq_true]
    refine ⟨a1, decide_eq_true ?_⟩
    rw [a2]
    decide
  have dp : ∀ {p : Addr}, H p = some (.tup r.vals) → Dp K H (.ref p) (lnD r) := fun h => .tup (SqT.of h) (.cons (.str _) (.cons (.int _) (.cons (.int _) (.cons (.str _) .nil))))
  refine ⟨_, _, dp h, dp h2, sh, sh, ?_⟩
  have e : PyData.eqv (lnD r) (lnD r) = true := SeqAt.eqv_refl _ a1
  rw [e]
  exact q
theorem rd_neRd {K : PySem.W.Frag} {H : Hp} {Q : VK} {p p2 : Addr} {ps : List Addr} {rs : List Ln} (h : H p = some (.lst (ps.map V.ref))) (h2 : H p2 = some (.lst (ps.map V.ref))) (t : TupsAt H ps (rows rs)) (ok : ∀ r ∈ rs, RdOk r) (q : Q (.bl false) H) : rNeD K (.ref p) (.ref p2) H Q := by
  have lay : ∀ rs : List Ln, (∀ r ∈ rs, RdOk r) → PyData.canLayAll0 (rs.map lnD) = true ∧ PyData.depthAll (rs.map lnD) ≤ 1 := by
    intro rs
    induction rs with
    | nil => exact fun _ => ⟨rfl, Nat.zero_le _⟩
    | cons r rs ih =>
      intro h
      obtain ⟨a1, a2⟩ := lay_rd (h r (List.mem_cons_self ..))
      obtain ⟨b1, b2⟩ := ih fun r hr => h r (List.mem_cons_of_mem _ hr)
      constructor
      · show (PyData.canLay0 (lnD r) && PyData.canLayAll0 (rs.map lnD)) = true
        rw [a1, b1]
        rfl
      · show max (PyData.depth (lnD r)) (PyData.depthAll (rs.map lnD)) ≤ 1
        omega
  obtain ⟨a1, a2⟩ := lay rs ok
  have sh : SeqAt.shaped (.list (rs.map lnD)) = true := by
    unfold SeqAt.shaped
    rw [Bool.and_eq_true]
    refine ⟨a1, decide_eq_true ?_⟩
    show PyData.depthAll (rs.map lnD) + 1 ≤ 64
    omega
  refine ⟨_, _, .lst (SqL.of h) (dp_rows rs ps t), .lst (SqL.of h2) (dp_rows rs ps t), sh, sh, ?_⟩
  have e : PyData.eqv (.list (rs.map lnD)) (.list (rs.map lnD)) = true := SeqAt.eqv_refl _ a1
  rw [e]
  exact q
/-- words[-2:-1] against ['if'] -/
theorem cut_if {ws : List (List Nat)} (ne : ws ≠ []) : cutV (ws.map fun w => V.str (txt w)) (some (-2)) (some (-1)) = (if 2 ≤ ws.length then [V.str (txt (ws.getD (ws.length - 2) []))] else []) := by
  have l0 : 0 < ws.length := List.length_pos_iff.mpr ne
  have e1 : HT.sIx (ws.map fun w => V.str (txt w)).length 0 (some (-2)) = ws.length - 2 := by
    unfold HT.sIx
    rw [List.length_map]
    show (if (-2 : Int) < 0 then ((-2 : Int) + (ws.length : Int)).toNat else _) = _
    rw [if_pos (by decide)]
    omega
  have e2 : HT.sIx (ws.map fun w => V.str (txt w)).length (ws.map fun w => V.str (txt w)).length (some (-1)) = ws.length - 1 := by
    unfold HT.sIx
    rw [List.length_map]
    show (if (-1 : Int) < 0 then ((-1 : Int) + (ws.length : Int)).toNat else _) = _
    rw [if_pos (by decide)]
    omega
  unfold cutV
  rw [e1, e2]
  by_cases k : 2 ≤ ws.length
  · have e3 : ws.length - 1 - (ws.length - 2) = 1 := by omega
    have hl : ws.length - 2 < ws.length := by omega
    rw [if_pos k, e3, ← List.map_drop, List.drop_eq_getElem_cons hl, List.getD_eq_getElem?_getD, List.getElem?_eq_getElem hl]
    rfl
  · have e3 : ws.length - 1 - (ws.length - 2) = 0 := by omega
    rw [if_neg k, e3, List.take_zero]
theorem cut_to_m2 {ws : List (List Nat)} (h : 2 ≤ ws.length) : cutV (ws.map fun w => V.str (txt w)) none (some (-2)) = (ws.take (ws.length - 2)).map fun w => V.str (txt w) := by
  have e2 : HT.sIx (ws.map fun w => V.str (txt w)).length (ws.map fun w => V.str (txt w)).length (some (-2)) = ws.length - 2 := by
    unfold HT.sIx
    rw [List.length_map]
    show (if (-2 : Int) < 0 then ((-2 : Int) + (ws.length : Int)).toNat else _) = _
    rw [if_pos (by decide)]
    omega
  unfold cutV
  rw [e2, HT.sIx_none, List.drop_zero, Nat.sub_zero, List.map_take]
theorem cut_to_m1 {ws : List V} : cutV ws none (some (-1)) = ws.dropLast := by
  have e2 : HT.sIx ws.length ws.length (some (-1)) = ws.length - 1 := by
    unfold HT.sIx
    show (if (-1 : Int) < 0 then ((-1 : Int) + (ws.length : Int)).toNat else _) = _
    rw [if_pos (by decide)]
    omega
  unfold cutV
  rw [e2, HT.sIx_none, List.drop_zero, Nat.sub_zero, List.dropLast_eq_take]
theorem rd_neIf {K : PySem.W.Frag} {H : Hp} {Q : VK} {p p2 : Addr} {ws : List (List Nat)} (h : H p = some (.lst (if 2 ≤ ws.length then [V.str (txt (ws.getD (ws.length - 2) []))] else []))) (h2 : H p2 = some (.lst [.str (txt wIf)])) (hc : ∀ w ∈ ws, ∀ c ∈ w, c < 128) (q : Q (.bl (!isIf ws)) H) : rNeD K (.ref p) (.ref p2) H Q := by
  have ok : ∀ w : List Nat, (∀ c ∈ w, c < 128) → PyData.strOk (txt w) = true := fun w hw => by
    unfold PyData.strOk txt
    rw [Array.all_eq_true]
    intro i hi
    have hi2 : i < w.length := by simpa using hi
    have := hw _ (List.getElem_mem hi2)
    simp
    omega
  have sh1 : ∀ w : List Nat, (∀ c ∈ w, c < 128) → SeqAt.shaped (.list [.str (txt w)]) = true := fun w hw => by
    unfold SeqAt.shaped
    rw [Bool.and_eq_true]
    refine ⟨?_, decide_eq_true (show max (0 : Nat) 0 + 1 ≤ 64 by decide)⟩
    show (PyData.strOk (txt w) && true) = true
    rw [ok w hw]
    rfl
  have h3 : ∀ c ∈ wIf, c < 128 := by decide
  by_cases k : 2 ≤ ws.length
  · rw [if_pos k] at h
    have hl : ws.length - 2 < ws.length := by omega
    have hm : ws.getD (ws.length - 2) [] ∈ ws := by
      rw [List.getD_eq_getElem?_getD, List.getElem?_eq_getElem hl]
      exact List.getElem_mem hl
    refine ⟨.list [.str (txt (ws.getD (ws.length - 2) []))], .list [.str (txt wIf)], .lst (SqL.of h) (.cons (.str _) .nil), .lst (SqL.of h2) (.cons (.str _) .nil), sh1 _ (hc _ hm), sh1 _ h3, ?_⟩
    have e : PyData.eqv (.list [.str (txt (ws.getD (ws.length - 2) []))]) (.list [.str (txt wIf)]) = isIf ws := by
      have e1 : PyData.eqv (.list [.str (txt (ws.getD (ws.length - 2) []))]) (.list [.str (txt wIf)]) = ((txt (ws.getD (ws.length - 2) []) == txt wIf) && true) := rfl
      rw [e1, Bool.and_true]
      have : (txt (ws.getD (ws.length - 2) []) == txt wIf) = decide (ws.getD (ws.length - 2) [] = wIf) := SX.S_beq_eq
      rw [this]
      unfold isIf
      by_cases z : ws.getD (ws.length - 2) [] = wIf
      · rw [decide_eq_true z, decide_eq_true ⟨k, z⟩]
      · rw [decide_eq_false z, decide_eq_false fun y => z y.2]
    rw [e]
    exact q
  · rw [if_neg k] at h
    refine ⟨.list [], .list [.str (txt wIf)], .lst (SqL.of h) .nil, .lst (SqL.of h2) (.cons (.str _) .nil), by decide, sh1 _ h3, ?_⟩
    have e : isIf ws = false := decide_eq_false fun z => k z.1
    rw [e] at q
    exact q
theorem spl_ne (S : List Nat) : ∀ (l : List Nat) {k : Nat} {acc : List Nat}, TL.spl S k acc l ≠ []
  | [], k, acc => by rw [TL.spl_nil]; simp
  | c :: r, 0, acc => by
    show (if TL.pre S (c :: r) = true then acc :: TL.spl S (S.length - 1) [] r else TL.spl S 0 (acc ++ [c]) r) ≠ []
    by_cases h : TL.pre S (c :: r) = true
    · rw [if_pos h]; simp
    · rw [if_neg h]; exact spl_ne S r
  | c :: r, k + 1, acc => spl_ne S r
theorem spl_mem' (S : List Nat) : ∀ (l : List Nat) {k : Nat} {acc w : List Nat} {x : Nat}, w ∈ TL.spl S k acc l → x ∈ w → x ∈ acc ∨ x ∈ l
  | [], k, acc, w, x, hw, hx => by
    rw [TL.spl_nil] at hw
    rw [List.mem_singleton.mp hw] at hx
    exact .inl hx
  | c :: r, 0, acc, w, x, hw, hx => by
    have e : TL.spl S 0 acc (c :: r) = (if TL.pre S (c :: r) = true then acc :: TL.spl S (S.length - 1) [] r else TL.spl S 0 (acc ++ [c]) r) := rfl
    rw [e] at hw
    by_cases h : TL.pre S (c :: r) = true
    · rw [if_pos h] at hw
      rcases List.mem_cons.mp hw with z | z
      · rw [z] at hx; exact .inl hx
      · rcases spl_mem' S r z hx with y | y
        · exact absurd y List.not_mem_nil
        · exact .inr (List.mem_cons_of_mem _ y)
    · rw [if_neg h] at hw
      rcases spl_mem' S r hw hx with y | y
      · rcases List.mem_append.mp y with y | y
        · exact .inl y
        · rw [List.mem_singleton.mp y]; exact .inr (List.mem_cons_self ..)
      · exact .inr (List.mem_cons_of_mem _ y)
  | c :: r, k + 1, acc, w, x, hw, hx => by
    rcases spl_mem' S r (k := k) hw hx with y | y
    · exact .inl y
    · exact .inr (List.mem_cons_of_mem _ y)
theorem spl_mem {S l w : List Nat} {x : Nat} (hw : w ∈ TL.spl S 0 [] l) (hx : x ∈ w) : x ∈ l := (spl_mem' S l hw hx).resolve_left List.not_mem_nil
theorem spl_len' (S : List Nat) : ∀ (l : List Nat) {k : Nat} {acc w : List Nat}, w ∈ TL.spl S k acc l → w.length ≤ acc.length + l.length
  | [], k, acc, w, hw => by
    rw [TL.spl_nil] at hw
    rw [List.mem_singleton.mp hw]
    exact Nat.le_refl _
  | c :: r, 0, acc, w, hw => by
    have e : TL.spl S 0 acc (c :: r) = (if TL.pre S (c :: r) = true then acc :: TL.spl S (S.length - 1) [] r else TL.spl S 0 (acc ++ [c]) r) := rfl
    rw [e] at hw
    rw [List.length_cons]
    by_cases h : TL.pre S (c :: r) = true
    · rw [if_pos h] at hw
      rcases List.mem_cons.mp hw with z | z
      · rw [z]; omega
      · have := spl_len' S r z
        simp at this
        omega
    · rw [if_neg h] at hw
      have := spl_len' S r hw
      rw [List.length_append] at this
      simp at this
      omega
  | c :: r, k + 1, acc, w, hw => by
    have := spl_len' S r (k := k) hw
    rw [List.length_cons]
    omega
theorem spl_len (S l : List Nat) : ∀ w ∈ TL.spl S 0 [] l, w.length ≤ l.length := fun w hw => by
  have := spl_len' S l hw
  simpa using this
theorem ones_flat : ∀ gs : List Nat, (gs.map fun c => [c]).flatten = gs
  | [] => rfl
  | x :: r => by
    rw [List.map_cons, List.flatten_cons, ones_flat r]
    rfl
theorem slT {K : PySem.W.Frag} {H : Hp} {Q : VK} {p : Addr} {xs : List V} {k : Nat} (h : H p = some (.lst xs)) (hk : k ≤ xs.length) (q : ∀ H' l, Same H H' → H l = none → H' l = some (.lst (xs.take k)) → Q (.ref l) H') : rSlL K (.ref p) none (some (k : Int)) H Q :=
  rd_slL (SqL.of h) fun l nl => by
    rw [cut_to hk]
    obtain ⟨H2, e2, S2, h2⟩ := new_gen (.lst (xs.take k)) nl
    rw [← e2]
    exact q H2 l S2 nl h2
theorem slF {K : PySem.W.Frag} {H : Hp} {Q : VK} {p : Addr} {xs : List V} {k : Nat} (h : H p = some (.lst xs)) (hk : k ≤ xs.length) (q : ∀ H' l, Same H H' → H l = none → H' l = some (.lst (xs.drop k)) → Q (.ref l) H') : rSlL K (.ref p) (some (k : Int)) none H Q :=
  rd_slL (SqL.of h) fun l nl => by
    rw [cut_from hk]
    obtain ⟨H2, e2, S2, h2⟩ := new_gen (.lst (xs.drop k)) nl
    rw [← e2]
    exact q H2 l S2 nl h2
theorem rows_take {H : Hp} {ps : List Addr} {rs : List Ln} (t : TupsAt H ps (rows rs)) (k : Nat) : TupsAt H (ps.take k) (rows (rs.take k)) := by
  have q := t.take k
  unfold rows at *
  rw [← List.map_take] at q
  exact q
theorem rows_drop {H : Hp} {ps : List Addr} {rs : List Ln} (t : TupsAt H ps (rows rs)) (k : Nat) : TupsAt H (ps.drop k) (rows (rs.drop k)) := by
  have q := t.drop k
  unfold rows at *
  rw [← List.map_drop] at q
  exact q
theorem take_all {p : Ln → Prop} {rs : List Ln} {i : Nat} (h : ∀ r ∈ rs, p r) : ∀ r ∈ rs.take i, p r := fun r hr => h r (List.mem_of_mem_take hr)
theorem drop_all {p : Ln → Prop} {rs : List Ln} {i : Nat} (h : ∀ r ∈ rs, p r) : ∀ r ∈ rs.drop i, p r := fun r hr => h r (List.mem_of_mem_drop hr)
/-- a comprehension within a def that draws, the items objects -/
theorem lc_wdH {c b : Addr} {ns : List Int} {J : It} {n : Nat} {G : Hp → Prop} {Y : Nat → Hp → V → Hp → Prop} (w : Walk J n G Y) {g : TG} {tt : TT} {te : TE} {vs : List Nat} {σ : L2.St} {H0 : Hp} {Q : VK} (B : Bag c ns b H0) (Pv : Nat → List V → Hp → Prop) (p0 : ∀ H, Pv 0 [] H)
    (st : ∀ i acc H H', Wd c ns b H H' → Pv i acc H → Pv i acc H') (mu : ∀ i acc H D o xs, H D = some (.lst xs) → Pv i acc H → Pv i acc (upd H D o))
    (sm : ∀ i acc H, Pv i acc H → acc.length < 1000) (hG : ∀ H, Wd c ns b H0 H → G H)
    (hs : ∀ i x H H' acc (Qc : VK) (R : Hp → Prop), i < n → Wd c ns b H0 H → Pv i acc H → Y i H x H' → (∀ y H4, Wd c ns b H H4 → Pv (i + 1) (acc ++ [y]) H4 → Qc y H4) → (∀ H4, Wd c ns b H H4 → Pv (i + 1) acc H4 → R H4) →
      g x (wipe σ vs) H' fun σ2 H2 => wipe σ2 vs = wipe σ vs ∧ tt σ2 H2 fun b H3 => if b = true then te σ2 H3 Qc else R H3)
    (hd : ∀ H D acc, Wd c ns b H0 H → H0 D = none → H D = some (.lst acc) → Pv n acc H → Q (.ref D) H) : Lc J g tt te vs σ H0 Q := fun D nD =>
  lc_it w (Qd := fun H => Q (.ref D) H) (fun i H => Wd c ns b H0 H ∧ ∃ acc, H D = some (.lst acc) ∧ Pv i acc H) ⟨(Wd.refl B).mut nD, [], upd_same, p0 _⟩ (fun i H _ p => hG H p.1)
    (fun i x H H' hi p y => by
      obtain ⟨w0, acc, hD, pa⟩ := p
      have nDb : D ≠ b := B.ne nD
      refine hs i x H H' acc _ _ hi w0 pa y (fun z H4 w4 pz => ?_) (fun H4 w4 pz => ⟨w0.trans w4, acc, w4.lst nDb hD, pz⟩)
      have h4 := w4.lst nDb hD
      exact ⟨acc, h4, small1000 (by have := sm i acc _ pa; omega), (w0.trans w4).mut nD, _, upd_same, mu _ _ _ _ _ _ h4 pz⟩)
    (fun H p => by
      obtain ⟨w0, acc, hD, pa⟩ := p
      exact hd H D acc w0 nD hD pa)
end Rv
/-! own errors: made, raised, caught, asked -/
namespace Rv
open PySem PySem.Spec PyProof.Rows L2
/-- what stands at the top under a name, if it is an object -/
def atTop (K : PySem.W.Frag) (x : Str) : Addr := match PySem.W.nsIn K mainGlobals x with
  | some (some (.ref a)) => a
  | _ => 0
theorem atTop_of {K : PySem.W.Frag} {x : Str} {a : Addr} (h : PySem.W.nsIn K mainGlobals x = some (some (.ref a))) : atTop K x = a := by
  unfold atTop
  rw [h]
/-- an error class with one field f, its own maker at fI -/
structure ErrT (K : PySem.W.Frag) (mg : Str → Option Value) (C fI : Addr) (x f : Str) : Prop where
  gC : mg x = some (.ref C)
  ox : OexC K C
  xf : XfC K C
  ec : ExcC K C
  icl : PySem.W.isClsIn K C = true
  noN : PySem.W.findIn K (.ref C) f = some none
  iC : PySem.W.findIn K (.ref C) "__init__" = some (some (.ref fI))
  tI : PySem.W.typeIn K (.ref fI) = some (.type "function")
/-- isinstance of the exception that the suite holds, of an own class, with a dict -/
def rIsX (K : PySem.W.Frag) (D a : Addr) (cls : Value) (d : Option Addr) : List V → Hp → VK → Prop := fun xs H Q => ∃ (c : V) (cv : Value) (b : Bool) (dd : Addr) (fs : List (Str × V)), xs = [.ref a, c] ∧ (∀ u, RelV c u → u = cv) ∧ PySem.W.kitOne K (.ref D) cv = some b ∧ cls = .ref D ∧ d = some dd ∧ H dd = some (.xd fs) ∧ Q (.bl b) H
theorem call_isX {X : Cx} {a D : Addr} {oe : Obj} {cls : Value} {d : Option Addr} {pn : List (Addr × Obj)} (C : ExcC X.K D) (hcl : (PySem.W.clsIn X.K D).isSome = true) (hz : Zc cls d oe) (hf : ∃ vs, oe.data = .fields vs) :
    CallR (X.suite a ((a, oe) :: pn)) (.builtin "isinstance") (rIsX X.K D a cls d) := by
  intro pins s σ H xs us Q I r h
  obtain ⟨c, cv, b, dd, fs, rfl, hcv, e, rfl, rfl, ea, q⟩ := h
  cases r with
  | cons rx rr =>
    cases rr with
    | cons rt rr =>
      cases rr
      cases rx
      have ec := hcv _ rt
      subst ec
      obtain ⟨ha, _⟩ := I.pin (a, oe) (List.mem_append_left _ List.mem_cons_self)
      obtain ⟨vs, hd⟩ := hf
      have hx : ObjOk X.prog X.w H s.heap dd (.xd fs) := I.hok dd _ ea
      obtain ⟨mA, hns, _⟩ := hx
      obtain ⟨od, ho, _⟩ := lookIn_ns hns
      have J : PySem.W.InstAt s.heap a oe D (some od) := ⟨ha, hz.1, by unfold PySem.W.notCls; rw [hd] <;> rfl, by rw [hz.2]; exact ho⟩
      exact PySem.W.kia_one (PySem.W.kitx_exc hcl C.hg C.hk C.hs C.ha C.hn C.ht C.hm) I.kIn J e (fun z => nomatch z) fun tk => ⟨.bl b, H, I.kept (t' := tk) fun _ _ z => z, rfl, q⟩
theorem exm_of {K : PySem.W.Frag} {S T : Addr} {b : Bool} (h1 : PySem.W.subIn K (.ref T) (.type "BaseException") = some true) (h2 : PySem.W.isClsIn K T = true) (h3 : PySem.W.typeIn K (.ref T) = some (.type "type")) (h4 : PySem.W.subIn K (.ref S) (.ref T) = some b) :
    PySem.W.exmOne K (.ref S) (.ref T) = some b := by
  have e1 : (PySem.W.subIn K (.ref T) (.type "BaseException") == some true) = true := by rw [h1] <;> rfl
  have e2 : ((PySem.W.clsIn K T).isSome && PySem.W.typeIn K (.ref T) == some (.type "type")) = true := by
    have h2' : (PySem.W.clsIn K T).isSome = true := h2
    rw [h2', h3] <;> rfl
  show (if (PySem.W.subIn K (.ref T) (.type "BaseException") == some true) = true then (if ((PySem.W.clsIn K T).isSome && PySem.W.typeIn K (.ref T) == some (.type "type")) = true then PySem.W.subIn K (.ref S) (.ref T) else none) else none) = some b
  rw [if_pos e1, if_pos e2]
  exact h4
theorem kit_refF {K : PySem.W.Frag} {S T : Addr} (h2 : PySem.W.isClsIn K T = true) (h3 : PySem.W.typeIn K (.ref T) = some (.type "type")) (h4 : PySem.W.subIn K (.ref S) (.ref T) = some false) (h5 : PySem.W.subIn K (.ref S) (.ref S) = some true) :
    PySem.W.kitOne K (.ref S) (.ref T) = some false := by
  have ne : (Value.ref S == Value.ref T) = false := by
    refine Bool.eq_false_iff.mpr fun q => ?_
    have e : S = T := Value.ref.inj (beq_iff_eq.mp q)
    rw [← e, h5] at h4
    cases h4
  have e2 : ((PySem.W.clsIn K T).isSome && PySem.W.typeIn K (.ref T) == some (.type "type")) = true := by
    have h2' : (PySem.W.clsIn K T).isSome = true := h2
    rw [h2', h3] <;> rfl
  show (if (Value.ref S == Value.ref T) = true then some true else if ((PySem.W.clsIn K T).isSome && PySem.W.typeIn K (.ref T) == some (.type "type")) = true then PySem.W.subIn K (.ref S) (.ref T) else none) = some false
  rw [ne, if_neg Bool.false_ne_true, if_pos e2]
  exact h4
theorem kit_refV {K : PySem.W.Frag} {S : Addr} (h4 : PySem.W.subIn K (.ref S) (.type "ValueError") = some true) : PySem.W.kitOne K (.ref S) (.type "ValueError") = some true := by
  have km : PySem.W.kitMeta "ValueError" = true := by decide +kernel
  show (if (Value.ref S == Value.type "ValueError") = true then some true else if PySem.W.kitMeta "ValueError" = true then PySem.W.subIn K (.ref S) (.type "ValueError") else none) = some true
  rw [if_neg (fun z => by cases z), if_pos km]
  exact h4
/-- self.f = v, the maker's promise -/
def spErr (C : Addr) (f : Str) : Sp := fun vs H Q _ => ∃ (a : Addr) (v : V), vs = [.ref a, v] ∧ H a = some (exo a C none) ∧ ∀ d, H d = none → d ≠ a → Q .non (upd (upd H d (exd d [(f, v)])) a (exo a C (some d)))
def tRaiseQ (W : WX) (t : L2.St → Hp → XK → Prop) : TS := fun _ σ H => t σ H fun cls d H' => W cls d σ H'
theorem ps_raiseQ {X : Cx} {W : WX} {e : Expr} {t : L2.St → Hp → XK → Prop} {pos : Pos} (hc : X.calm = true) (tk : Takes X W) (he : PMk X e t) : PS X (.Raise (some e) none pos) (tRaiseQ W t) := ps_raise hc tk he
section
variable {X : Cx} {x n : Str} {c : Value} {i : Nat} {body suite : List Stmt} {b₀ : Stmt} {np pos pos' : Pos}
def tTryA (K : PySem.W.Frag) (c : Value) (i : Nat) (tb : WX → TS) (ts : Addr → Value → Option Addr → TS) : TS := fun D σ H => tb (wAs K c i ts (fun _ _ _ _ => False) D) D σ H
def tTryO (K : PySem.W.Frag) (c : Value) (tb : WX → TS) (ts : Addr → Value → Option Addr → TS) : TS := fun D σ H => tb (wOnly K c ts (fun _ _ _ _ => False) D) D σ H
theorem ps_tryA (tb : WX → TS) (ts : Addr → Value → Option Addr → TS) (hs : X.stack = X.env :: X.outer) (hf : X.env.frame = some X.env.locals) (hN : X.N.Nodup) (hi : X.N[i]? = some n) (hln : X.env.kindOf n = some .local) (hc : Names X x c)
    (hb : ∀ (W : WX) (pn : List (Addr × Obj)) (xe : Value → Shared → Prop), Takes (X.tr pn xe) W → PSs (X.tr pn xe) body (tb W))
    (hsu : ∀ (a : Addr) (oe : Obj) (cls : Value) (d : Option Addr) (pn : List (Addr × Obj)), Zc cls d oe → (∃ vs, oe.data = .fields vs) → PSs (X.suite a ((a, oe) :: pn)) (b₀ :: suite) (ts a cls d)) :
    PS X (.Try body [.ExceptHandler (some (.Name x np)) (some n) (b₀ :: suite) pos'] [] [] pos) (tTryA X.K c i tb ts) := ps_try_as hs hf hN hi hln hc takes0 (fun W pn xe tk _ => hb W pn xe tk) hsu
theorem ps_tryO (tb : WX → TS) (ts : Addr → Value → Option Addr → TS) (hs : X.stack = X.env :: X.outer) (hf : X.env.frame = some X.env.locals) (hc : Names X x c)
    (hb : ∀ (W : WX) (pn : List (Addr × Obj)) (xe : Value → Shared → Prop), Takes (X.tr pn xe) W → PSs (X.tr pn xe) body (tb W))
    (hsu : ∀ (a : Addr) (oe : Obj) (cls : Value) (d : Option Addr) (pn : List (Addr × Obj)), Zc cls d oe → (∃ vs, oe.data = .fields vs) → PSs (X.suite a ((a, oe) :: pn)) (b₀ :: suite) (ts a cls d)) :
    PS X (.Try body [.ExceptHandler (some (.Name x np)) none (b₀ :: suite) pos'] [] [] pos) (tTryO X.K c tb ts) := ps_try_only hs hf hc takes0 (fun W pn xe tk _ => hb W pn xe tk) hsu
end
section
variable {σ : L2.St} {H : Hp} {K : PySem.W.Frag} {D : Ends} {Q : VK} {tb : WX → TS} {ts : Addr → Value → Option Addr → TS} {c : Value} {i : Nat} {W : WX} {ta : TA} {C a : Addr} {cls : Value} {d : Option Addr} {f : Str} {te : TE}
theorem rd_tryA (q : tb (wAs K c i ts (fun _ _ _ _ => False) D) D σ H) : tTryA K c i tb ts D σ H := q
theorem rd_tryO (q : tb (wOnly K c ts (fun _ _ _ _ => False) D) D σ H) : tTryO K c tb ts D σ H := q
theorem rd_mkO {sp : Sp} {Q : XK} (q : ta σ H fun vs H1 => vs.length ≤ 1000 ∧ ∀ a, H1 a = none → sp (.ref a :: (vs ++ [])) (upd H1 a (exo a C none)) (fun v H2 => v = .non ∧ ∃ (d : Addr) (fs : List (Str × V)), H2 a = some (exo a C (some d)) ∧ H2 d = some (exd d fs) ∧ H1 d = none ∧ Q (.ref C) (some d) (upd (del H2 a) d (.xd fs))) (fun _ _ _ => False)) : tMkO C sp [] ta σ H Q := q
theorem rd_xfQ (q : te σ H fun x H1 => x = .ref a ∧ cls = .ref C ∧ ∃ (dd : Addr) (fs : List (Str × V)) (v : V), d = some dd ∧ H1 dd = some (.xd fs) ∧ fs.lookup f = some v ∧ Q v H1) : tXf a cls d C f te σ H Q := q
theorem rd_callS {sp : Sp} {E : L2.St → XK} (q : ta σ H fun vs H1 => sp vs H1 Q (E σ)) : tCallS sp E ta σ H Q := q
theorem rd_raise {t : L2.St → Hp → XK → Prop} (q : t σ H fun cls d H' => W cls d σ H') : tRaiseQ W t D σ H := q
theorem mkErr {Q : XK} {v : V} {H1 : Hp} (q : ∀ H' d, Same H1 H' → H' d = some (.xd [(f, v)]) → Q (.ref C) (some d) H') : [v].length ≤ 1000 ∧ ∀ a, H1 a = none → spErr C f (.ref a :: ([v] ++ [])) (upd H1 a (exo a C none))
  (fun v H2 => v = .non ∧ ∃ (d : Addr) (fs : List (Str × V)), H2 a = some (exo a C (some d)) ∧ H2 d = some (exd d fs) ∧ H1 d = none ∧ Q (.ref C) (some d) (upd (del H2 a) d (.xd fs))) (fun _ _ _ => False) := by
  refine ⟨by simp, fun a na => ⟨a, v, rfl, upd_same, fun d nd ne => ⟨rfl, d, [(f, v)], upd_same, ?_, ?_, ?_⟩⟩⟩
  · rw [upd_ne ne, upd_same]
  · rw [upd_ne ne] at nd
    exact nd
  · rw [upd_ne ne] at nd
    refine q _ d (fun b o e => ?_) upd_same
    have n1 : b ≠ a := ne_of_none e na
    have n2 : b ≠ d := ne_of_none e nd
    rw [upd_ne n2, del_ne n1, upd_ne n1, upd_ne n2, upd_ne n1]
    exact e
theorem rd_xf {x : V} {dd : Addr} {v : V} (h : H dd = some (.xd [(f, v)])) (q : Q v H) : x = .ref a → cls = .ref C → d = some dd → (x = .ref a ∧ cls = .ref C ∧ ∃ (dd : Addr) (fs : List (Str × V)) (v : V), d = some dd ∧ H dd = some (.xd fs) ∧ fs.lookup f = some v ∧ Q v H) :=
  fun e1 e2 e3 => ⟨e1, e2, dd, _, v, e3, h, by simp [List.lookup], q⟩
end
end Rv
/-! texts that may be wrong: what is read of them, line by line -/
namespace Rv
open PySem PySem.Spec PyProof.Rows L2
theorem readW_ok {ws : List (List Nat)} {g : List Nat} {r : Ln} (h : readW ws g = some r) (gl : g.length ≤ 12) (gs : ∀ c ∈ g, Sign c) : RdOk r := by
  unfold readW at h
  split at h
  · rename_i a t
    by_cases k : a = wClear ∧ t ∈ NUMS
    · rw [if_pos k] at h
      have e := Option.some.inj h
      subst e
      obtain ⟨n, n12, rfl⟩ := of_nums k.2
      exact ⟨by show (0 : Int) ≤ ((NumText.digitsVal _ : Nat) : Int); omega, by show ((NumText.digitsVal _ : Nat) : Int) < 12; rw [TL.numL_val]; omega, .inl ⟨rfl, rfl⟩, gl, gs⟩
    · rw [if_neg k] at h
      cases h
  · rename_i a t x s
    by_cases k : x = wArr ∧ ((a = wCopy ∨ a = wMove) ∧ t ≠ s) ∧ (t ∈ NUMS ∧ s ∈ NUMS)
    · rw [if_pos k] at h
      have e := Option.some.inj h
      subst e
      obtain ⟨_, ⟨ka, ne⟩, k1, k2⟩ := k
      obtain ⟨n, n12, rfl⟩ := of_nums k1
      obtain ⟨m, m12, rfl⟩ := of_nums k2
      refine ⟨by show (0 : Int) ≤ ((NumText.digitsVal _ : Nat) : Int); omega, by show ((NumText.digitsVal _ : Nat) : Int) < 12; rw [TL.numL_val]; omega, .inr ⟨?_, ?_, ?_, ?_⟩, gl, gs⟩
      · rcases ka with z | z
        · exact .inl (by show txt a = _; rw [z]; rfl)
        · exact .inr (by show txt a = _; rw [z]; rfl)
      · show (0 : Int) ≤ ((NumText.digitsVal _ : Nat) : Int)
        omega
      · show ((NumText.digitsVal _ : Nat) : Int) < 12
        rw [TL.numL_val]
        omega
      · show ((NumText.digitsVal (TL.numL m) : Nat) : Int) ≠ ((NumText.digitsVal (TL.numL n) : Nat) : Int)
        rw [TL.numL_val, TL.numL_val]
        intro e
        have : m = n := by omega
        exact ne (by rw [this])
    · rw [if_neg k] at h
      cases h
  · cases h
theorem readL_ok {p : List Nat} {r : Ln} (h : readL p = some r) : RdOk r := by
  unfold readL at h
  generalize TL.spl [32] 0 [] p = ws at h
  have h : (if isIf ws = true then (if (1 ≤ (ws.getLastD []).length ∧ (ws.getLastD []).length ≤ 12) ∧ (ws.getLastD []).all isSg = true then readW (ws.take (ws.length - 2)) (ws.getLastD []) else none) else readW ws []) = some r := h
  by_cases k : isIf ws = true
  · rw [if_pos k] at h
    by_cases k2 : (1 ≤ (ws.getLastD []).length ∧ (ws.getLastD []).length ≤ 12) ∧ (ws.getLastD []).all isSg = true
    · rw [if_pos k2] at h
      exact readW_ok h k2.1.2 fun c hc => sg_iff.mp (List.all_eq_true.mp k2.2 c hc)
    · rw [if_neg k2] at h
      cases h
  · rw [if_neg k] at h
    exact readW_ok h (Nat.zero_le _) fun c hc => absurd hc List.not_mem_nil
/-- the lines rs are read ahead of the first wrong one -/
structure Front (body : List (List Nat)) (rs : List Ln) : Prop where
  le : rs.length ≤ body.length
  m60 : rs.length ≤ 60
  at_ : ∀ (i : Nat) (h : i < rs.length), readL (body[i]'(by omega)) = some rs[i]
/-- k: 0, or the number of the first wrong line -/
structure Read (ps : List (List Nat)) (k : Nat) (rs : List Ln) : Prop where
  fr : Front ps.dropLast rs
  end_ : (k = 0 ∧ rs.length = ps.dropLast.length ∧ ps.getLastD [] = []) ∨ (k = ps.length ∧ 0 < ps.length ∧ rs.length = ps.dropLast.length ∧ ps.getLastD [] ≠ []) ∨
    (k = rs.length + 1 ∧ ∃ h : rs.length < ps.dropLast.length, readL ps.dropLast[rs.length] = none ∨ rs.length = 60)
theorem Front.nil {body : List (List Nat)} : Front body [] := ⟨Nat.zero_le _, Nat.zero_le _, fun i h => absurd h (Nat.not_lt_zero _)⟩
theorem Front.more {body : List (List Nat)} {rs : List Ln} {r : Ln} (f : Front body rs) (h : rs.length < body.length) (e : readL body[rs.length] = some r) (n : rs.length ≠ 60) : Front body (rs ++ [r]) := by
  have m := f.m60
  refine ⟨by rw [List.length_append]; exact h, by rw [List.length_append]; simp; omega, fun i hi => ?_⟩
  rw [List.length_append] at hi
  simp at hi
  by_cases k : i < rs.length
  · rw [List.getElem_append_left k]
    exact f.at_ i k
  · have : i = rs.length := by omega
    subst this
    rw [List.getElem_append_right (Nat.le_refl _)]
    simp only [Nat.sub_self, List.getElem_cons_zero]
    exact e
theorem Front.ok {body : List (List Nat)} {rs : List Ln} (f : Front body rs) : ∀ r ∈ rs, RdOk r := fun r hr => by
  obtain ⟨i, hi, rfl⟩ := List.mem_iff_getElem.mp hr
  exact readL_ok (f.at_ i hi)
theorem Read.le_of {ps : List (List Nat)} {k k' : Nat} {rs rs' : List Ln} (h : Read ps k rs) (h' : Read ps k' rs') : ¬ rs.length < rs'.length := fun lt => by
  have a := h'.fr.at_ rs.length lt
  have b := h'.fr.le
  have c := h'.fr.m60
  rcases h.end_ with ⟨_, e, _⟩ | ⟨_, _, e, _⟩ | ⟨_, hl, e | e⟩
  · omega
  · omega
  · rw [e] at a
    cases a
  · omega
theorem Read.same {ps : List (List Nat)} {k k' : Nat} {rs rs' : List Ln} (h : Read ps k rs) (h' : Read ps k' rs') : k = k' ∧ rs = rs' := by
  have l1 := h.le_of h'
  have l2 := h'.le_of h
  have el : rs.length = rs'.length := by omega
  have er : rs = rs' := by
    refine List.ext_getElem el fun i h1 h2 => ?_
    have a := h.fr.at_ i h1
    have b := h'.fr.at_ i h2
    rw [a] at b
    exact Option.some.inj b
  subst er
  refine ⟨?_, rfl⟩
  rcases h.end_ with ⟨e1, e2, e3⟩ | ⟨e1, e0, e2, e3⟩ | ⟨e1, e2, _⟩ <;> rcases h'.end_ with ⟨f1, f2, f3⟩ | ⟨f1, f0, f2, f3⟩ | ⟨f1, f2, _⟩
  · omega
  · exact absurd e3 f3
  · omega
  · exact absurd f3 e3
  · omega
  · omega
  · omega
  · omega
  · omega
/-- a line is wrong: its number is told -/
theorem Read.wrong {ps : List (List Nat)} {rs : List Ln} (f : Front ps.dropLast rs) (h : rs.length < ps.dropLast.length) (e : readL ps.dropLast[rs.length] = none ∨ rs.length = 60) : Read ps (rs.length + 1) rs := ⟨f, .inr (.inr ⟨rfl, h, e⟩)⟩
/-! rules of their own names, for texts that are bent -/
def rMulS : R2 := fun x y H Q => ∃ (c n : Nat), x = .str (one c) ∧ y = .int n ∧ 1 ≤ n ∧ n ≤ 10000 ∧ Q (.str (txt (List.replicate n c))) H
theorem op_mulS {X : Cx} : OpR X (binaryOp .Mult) rMulS := by
  intro pins s σ H x y v u Q I rx ry h
  obtain ⟨c, n, rfl, rfl, n1, n2, q⟩ := h
  obtain ⟨t, rfl⟩ := rx
  obtain ⟨t', rfl⟩ := ry
  have l1 : (one c).length = 1 := rfl
  have ok : MulOk (one c) (n : Int) := by
    refine ⟨?_, fun _ _ => ?_, fun _ _ => ?_⟩
    · rw [Bool.or_eq_false_iff]
      exact ⟨decide_eq_false (by omega), decide_eq_false (by omega)⟩
    · rw [l1]
      have : (1 : Int) ≤ (2 ^ 63 - 1) / (n : Int) := by
        rw [Int.le_ediv_iff_mul_le (by omega)]
        omega
      omega
    · rw [l1, Int.toNat_natCast, Nat.one_mul]
      have : n ≤ sizeLine := Nat.le_trans n2 (by decide)
      exact decide_eq_false (by omega)
  have e : Txt.mul (one c) (n : Int) = txt (List.replicate n c) := by
    unfold Txt.mul
    rw [if_neg (by omega)]
    by_cases k : n = 1
    · subst k
      rfl
    · have f : ((n : Int) == 1 || (one c).length == 0) = false := by
        rw [Bool.or_eq_false_iff]
        exact ⟨beq_eq_false_iff_ne.mpr (by omega), rfl⟩
      rw [f, if_neg Bool.false_ne_true, Int.toNat_natCast]
      refine TL.ext_tl ?_
      show ((List.replicate n (one c).cps).foldl (· ++ ·) #[]).toList = List.replicate n c
      rw [fold_reps]
      rfl
  refine SB.mul ok fun t2 k => ?_
  rw [e]
  exact ⟨.str (txt (List.replicate n c)), H, I.tok _, ⟨_, rfl⟩, q⟩
def rUpQ : V → List V → Hp → VK → Prop := fun x xs H Q => ∃ a, x = .str a ∧ xs = [] ∧ a.length ≤ 5592405 ∧ Q (.str (Txt.upper a)) H
theorem pe_upQ {X : Cx} {o : Expr} {to : TE} {apos pos : Pos} (ho : PE X o to) (hbase : attributeBase o "upper" X.env (eval o X.env) = eval o X.env := by rfl) (hline : (apos.endLine == pos.line) = true := by rfl) :
    PE X (.Call (.Attribute o "upper" apos) [] [] pos) (tM0 rUpQ to) := pe_upper ho hbase hline
def rNotSg : R2 := fun x y H Q => ∃ (c : Nat) (z : Str), x = .str ⟨#[c]⟩ ∧ y = .str z ∧ Q (.bl (!decide (c ∈ z.cps.toList))) H
theorem op_notSgQ {X : Cx} : OpR X (compareOp .NotIn) rNotSg := op_notIn_sign
section
variable {σ : L2.St} {H : Hp} {K : PySem.W.Frag} {Q : VK} {te to : TE} {a b : List Nat} {p p2 : Addr} {xs ys : List V}
theorem rd_mulS {c n : Nat} (n1 : 1 ≤ n) (n2 : n ≤ 10000) (q : Q (.str (txt (List.replicate n c))) H) : rMulS (.str (one c)) (.int n) H Q := ⟨c, n, rfl, rfl, n1, n2, q⟩
theorem rd_M0 {r : V → List V → Hp → VK → Prop} (q : to σ H fun x H1 => (∃ a, x = .str a) ∧ r x [] H1 Q) : tM0 r to σ H Q := q
theorem up_small {a : List Nat} (h : ∀ c ∈ a, c < 128) : ∀ c ∈ a.map PyProof.Rows.up1, c < 128 := fun c hc => by
  obtain ⟨d, hd, rfl⟩ := List.mem_map.mp hc
  have := h d hd
  unfold PyProof.Rows.up1
  split <;> omega
theorem rd_up (h : ∀ c ∈ a, c < 128) (hl : a.length ≤ 100000) (q : Q (.str (txt (a.map PyProof.Rows.up1))) H) : rUpQ (.str (txt a)) [] H Q := by
  refine ⟨_, rfl, rfl, by rw [txt_len]; omega, ?_⟩
  have e : Txt.upper (txt a) = txt (a.map PyProof.Rows.up1) := SX.upper_S (by rw [List.all_eq_true]; exact fun c hc => decide_eq_true (h c hc))
  rw [e]
  exact q
theorem rd_notSg {c : Nat} {z : Str} (q : Q (.bl (!decide (c ∈ z.cps.toList))) H) : rNotSg (.str ⟨#[c]⟩) (.str z) H Q := ⟨c, z, rfl, rfl, q⟩
theorem rd_slS {lo hi : Option Int} (h : a.length ≤ 1000000) (q : Q (.str (cutS (txt a) lo hi)) H) : rSlS (.str (txt a)) lo hi H Q := ⟨_, rfl, by rw [txt_len]; exact big_line h, q⟩
theorem cutS_to {k : Nat} : cutS (txt a) none (some (k : Int)) = txt (a.take k) := by
  unfold cutS
  rw [HT.sIx_none, HT.sIx_nat, txt_len, List.drop_zero, Nat.sub_zero]
  show txt (a.take (min k a.length)) = _
  by_cases h : k ≤ a.length
  · rw [Nat.min_eq_left h]
  · rw [Nat.min_eq_right (by omega), List.take_of_length_le (Nat.le_refl _), List.take_of_length_le (by omega)]
theorem cutS_from {k : Nat} : cutS (txt a) (some (k : Int)) none = txt (a.drop k) := by
  unfold cutS
  rw [HT.sIx_none, HT.sIx_nat, txt_len]
  show txt ((a.drop (min k a.length)).take (a.length - min k a.length)) = _
  rw [List.take_of_length_le (by rw [List.length_drop]; exact Nat.le_refl _)]
  by_cases h : k ≤ a.length
  · rw [Nat.min_eq_left h]
  · rw [Nat.min_eq_right (by omega), List.drop_length, List.drop_eq_nil_of_le (by omega)]
theorem cutS_m1 : cutS (txt a) none (some (-1)) = txt a.dropLast := by
  unfold cutS
  have e2 : HT.sIx (txt a).length (txt a).length (some (-1)) = a.length - 1 := by
    unfold HT.sIx
    rw [txt_len]
    show (if (-1 : Int) < 0 then ((-1 : Int) + (a.length : Int)).toNat else _) = _
    rw [if_pos (by decide)]
    omega
  rw [e2, HT.sIx_none, List.drop_zero, Nat.sub_zero, List.dropLast_eq_take]
  rfl
theorem rd_cat (h : H p = some (.lst xs)) (h2 : H p2 = some (.lst ys)) (hl : xs.length + ys.length ≤ 100000) (q : ∀ l, H l = none → Q (.ref l) (upd H l (.lst (xs ++ ys)))) : rCat (.ref p) (.ref p2) H Q := ⟨p, p2, xs, ys, rfl, rfl, h, h2, Nat.le_trans hl (by decide), q⟩
end
theorem join_le (s : Nat) : ∀ l : List (List Nat), (TL.joinL [s] l).length ≤ l.flatten.length + l.length
  | [] => Nat.zero_le _
  | [p] => by
    show p.length ≤ _
    rw [List.flatten_cons, List.length_append]
    omega
  | p :: q :: r => by
    have ih := join_le s (q :: r)
    show (p ++ ([s] ++ TL.joinL [s] (q :: r))).length ≤ _
    rw [List.length_append, List.length_append, List.flatten_cons, List.length_append]
    simp only [List.length_cons, List.length_nil] at *
    omega
theorem join_mem {s x : Nat} : ∀ {l : List (List Nat)}, x ∈ TL.joinL [s] l → x = s ∨ ∃ w ∈ l, x ∈ w
  | [], h => absurd h List.not_mem_nil
  | [p], h => .inr ⟨p, List.mem_singleton.mpr rfl, h⟩
  | p :: q :: r, h => by
    have h : x ∈ p ++ ([s] ++ TL.joinL [s] (q :: r)) := h
    rcases List.mem_append.mp h with k | k
    · exact .inr ⟨p, List.mem_cons_self .., k⟩
    · rcases List.mem_append.mp k with k | k
      · exact .inl (List.mem_singleton.mp k)
      · rcases join_mem k with e | ⟨w, hw, hx⟩
        · exact .inl e
        · exact .inr ⟨w, List.mem_cons_of_mem _ hw, hx⟩
theorem rd_joinS {K : PySem.W.Frag} {H : Hp} {Q : VK} {p : Addr} {s : Nat} {ws : List (List Nat)} (h : H p = some (.lst (ws.map fun w => V.str (txt w)))) (hl : ws.flatten.length + ws.length ≤ 1000000) (q : Q (.str (txt (TL.joinL [s] ws))) H) : rJoinT K (.str (one s)) [.ref p] H Q := by
  refine ⟨_, p, ws.map txt, rfl, rfl, .inl (SqL.of (by rw [List.map_map]; exact h)), ?_, ?_⟩
  · rw [sum_flat, List.length_map]
    show _ + ws.length * 1 ≤ _
    omega
  · have e : Txt.join (one s) (ws.map txt) = txt (TL.joinL [s] ws) := SX.join_S [s] ws
    rw [e]
    exact q
/-- words that are bounded: how many, how long in all, plain signs -/
structure Wb (n t : Nat) (ws : List (List Nat)) : Prop where
  n : ws.length ≤ n
  t : ws.flatten.length ≤ t
  c : ∀ w ∈ ws, ∀ c ∈ w, c < 128
theorem Wb.app {n t m u : Nat} {a b : List (List Nat)} (h : Wb n t a) (k : Wb m u b) : Wb (n + m) (t + u) (a ++ b) :=
  ⟨by rw [List.length_append]; have := h.n; have := k.n; omega, by rw [List.flatten_append, List.length_append]; have := h.t; have := k.t; omega, fun w hw => by
    rcases List.mem_append.mp hw with z | z
    · exact h.c w z
    · exact k.c w z⟩
theorem Wb.take {n t : Nat} {a : List (List Nat)} (h : Wb n t a) (k : Nat) : Wb n t (a.take k) :=
  ⟨by rw [List.length_take]; have := h.n; omega, by
    have e : a.flatten.length = (a.take k).flatten.length + (a.drop k).flatten.length := by rw [← List.length_append, ← List.flatten_append, List.take_append_drop]
    have := h.t; omega, fun w hw => h.c w (List.mem_of_mem_take hw)⟩
theorem Wb.drop {n t : Nat} {a : List (List Nat)} (h : Wb n t a) (k : Nat) : Wb n t (a.drop k) :=
  ⟨by rw [List.length_drop]; have := h.n; omega, by
    have e : a.flatten.length = (a.take k).flatten.length + (a.drop k).flatten.length := by rw [← List.length_append, ← List.flatten_append, List.take_append_drop]
    have := h.t; omega, fun w hw => h.c w (List.mem_of_mem_drop hw)⟩
theorem Wb.mono {n t m u : Nat} {a : List (List Nat)} (h : Wb n t a) (hn : n ≤ m) (ht : t ≤ u) : Wb m u a := ⟨Nat.le_trans h.n hn, Nat.le_trans h.t ht, h.c⟩
theorem Wb.one {t : Nat} {w : List Nat} (h : w.length ≤ t) (hc : ∀ c ∈ w, c < 128) : Wb 1 t [w] := ⟨Nat.le_refl _, by rw [List.flatten_cons, List.flatten_nil, List.append_nil]; exact h, fun x hx => by rw [List.mem_singleton.mp hx]; exact hc⟩
theorem Wb.len {n t : Nat} {a : List (List Nat)} (h : Wb n t a) : ∀ w ∈ a, w.length ≤ t := fun w hw => by
  have : w.length ≤ a.flatten.length := by
    obtain ⟨i, hi, rfl⟩ := List.mem_iff_getElem.mp hw
    clear h hw
    induction a generalizing i with
    | nil => exact absurd hi (Nat.not_lt_zero _)
    | cons x r ih =>
      rw [List.flatten_cons, List.length_append]
      cases i with
      | zero => show x.length ≤ _; omega
      | succ i => have := ih i (by simpa using hi); simp only [List.getElem_cons_succ]; omega
  exact Nat.le_trans this h.t
/-- a split text's words -/
theorem spl_flat (s : Nat) : ∀ (l acc : List Nat), (TL.spl [s] 0 acc l).flatten.length ≤ acc.length + l.length ∧ (TL.spl [s] 0 acc l).length ≤ l.length + 1
  | [], acc => by
    rw [TL.spl_nil]
    simp
  | c :: r, acc => by
    have e : TL.spl [s] 0 acc (c :: r) = (if TL.pre [s] (c :: r) = true then acc :: TL.spl [s] 0 [] r else TL.spl [s] 0 (acc ++ [c]) r) := rfl
    rw [e]
    by_cases h : TL.pre [s] (c :: r) = true
    · rw [if_pos h]
      obtain ⟨h1, h2⟩ := spl_flat s r []
      rw [List.flatten_cons, List.length_append]
      simp only [List.length_cons, List.length_nil] at *
      omega
    · rw [if_neg h]
      obtain ⟨h1, h2⟩ := spl_flat s r (acc ++ [c])
      rw [List.length_append] at h1
      simp only [List.length_cons, List.length_nil] at *
      omega
theorem spl_wb {s : Nat} {l : List Nat} (hc : ∀ c ∈ l, c < 128) : Wb (l.length + 1) l.length (TL.spl [s] 0 [] l) := by
  obtain ⟨h1, h2⟩ := spl_flat s l []
  exact ⟨h2, by simpa using h1, fun w hw c h => hc c (spl_mem hw h)⟩
theorem spl_free (s : Nat) : ∀ (l acc : List Nat), s ∉ acc → ∀ w ∈ TL.spl [s] 0 acc l, s ∉ w
  | [], acc, h, w, hw => by
    rw [TL.spl_nil] at hw
    rw [List.mem_singleton.mp hw]
    exact h
  | c :: r, acc, h, w, hw => by
    have e : TL.spl [s] 0 acc (c :: r) = (if TL.pre [s] (c :: r) = true then acc :: TL.spl [s] 0 [] r else TL.spl [s] 0 (acc ++ [c]) r) := rfl
    rw [e] at hw
    by_cases k : TL.pre [s] (c :: r) = true
    · rw [if_pos k] at hw
      rcases List.mem_cons.mp hw with z | z
      · rw [z]; exact h
      · exact spl_free s r [] List.not_mem_nil w z
    · rw [if_neg k] at hw
      refine spl_free s r (acc ++ [c]) (fun m => ?_) w hw
      rcases List.mem_append.mp m with z | z
      · exact h z
      · have z2 : s = c := List.mem_singleton.mp z
        refine k ?_
        rw [← z2]
        exact TL.pre_self [s] r
/-- the lines ahead of the first wrong one, as a text of their own -/
theorem Read.front {cs : List Nat} {k : Nat} {rs : List Ln} (h : Read (TL.spl [10] 0 [] cs) k rs) (k0 : k ≠ 0) : k = rs.length + 1 ∧ Read (TL.spl [10] 0 [] (((TL.spl [10] 0 [] cs).take rs.length).map (· ++ [10])).flatten) 0 rs := by
  have hf := spl_free 10 cs [] List.not_mem_nil
  have le := h.fr.le
  have hk : k = rs.length + 1 := by
    rcases h.end_ with ⟨e, _⟩ | ⟨e, e0, e2, _⟩ | ⟨e, _⟩
    · exact absurd e k0
    · rw [List.length_dropLast] at e2
      omega
    · exact e
  refine ⟨hk, ?_⟩
  have fa := h.fr.at_
  have m60 := h.fr.m60
  generalize TL.spl [10] 0 [] cs = ws at *
  have dl : ws.dropLast.length = ws.length - 1 := List.length_dropLast
  have go : ∀ l : List (List Nat), (l.map (· ++ [10])).flatten = TL.joinL [10] (l ++ [[]]) := by
    intro l
    induction l with
    | nil => rfl
    | cons x r ih =>
      rw [List.map_cons, List.flatten_cons, ih]
      cases r with
      | nil =>
        show (x ++ [10]) ++ [] = x ++ ([10] ++ [])
        simp
      | cons y z =>
        show (x ++ [10]) ++ TL.joinL [10] ((y :: z) ++ [[]]) = x ++ ([10] ++ TL.joinL [10] ((y :: z) ++ [[]]))
        rw [List.append_assoc]
  have es : TL.spl [10] 0 [] ((ws.take rs.length).map (· ++ [10])).flatten = ws.take rs.length ++ [[]] := by
    rw [go]
    refine TL.spl_join (by simp) fun p hp => ?_
    rcases List.mem_append.mp hp with z | z
    · exact hf p (List.mem_of_mem_take z)
    · rw [List.mem_singleton.mp z]
      exact List.not_mem_nil
  rw [es]
  have ed : (ws.take rs.length ++ [[]]).dropLast = ws.take rs.length := List.dropLast_concat
  have el : (ws.take rs.length).length = rs.length := by rw [List.length_take]; omega
  refine ⟨⟨?_, m60, fun i hi => ?_⟩, .inl ⟨rfl, by rw [ed, el], by simp⟩⟩
  · rw [ed, el]
    exact Nat.le_refl _
  · have a := fa i hi
    have e1 : (ws.take rs.length ++ [[]]).dropLast[i]'(by rw [ed, el]; exact hi) = ws.dropLast[i]'(by omega) := by
      have e2 : (ws.take rs.length ++ [[]]).dropLast[i]'(by rw [ed, el]; exact hi) = (ws.take rs.length)[i]'(by rw [el]; exact hi) := by congr 1
      rw [e2, List.getElem_take, List.getElem_dropLast]
    rw [e1]
    exact a
def blockOf (w : List Nat) : Int := if w ∈ NUMS then ((NumText.digitsVal w : Nat) : Int) else -1
theorem block_num {k : Nat} (h : k < 12) : blockOf (TL.numL k) = (k : Int) := by
  unfold blockOf
  rw [if_pos (num_in h), TL.numL_val]
theorem block_neg {w : List Nat} (h : w ∉ NUMS) : blockOf w = -1 := if_neg h
theorem block_nonneg {w : List Nat} : (0 : Int) ≤ blockOf w ↔ w ∈ NUMS := by
  unfold blockOf
  by_cases k : w ∈ NUMS
  · rw [if_pos k]
    exact ⟨fun _ => k, fun _ => by omega⟩
  · rw [if_neg k]
    exact ⟨fun z => absurd z (by decide), fun z => absurd z k⟩
theorem rd_inTx {K : PySem.W.Frag} {H : Hp} {Q : VK} {p : Addr} {t : List Nat} {l : List (List Nat)} (h : H p = some (.lst (l.map fun w => V.str (txt w)))) (q : Q (.bl (decide (t ∈ l))) H) : rIn K false (.str (txt t)) (.ref p) H Q := by
  refine ⟨p, _, rfl, .inl (SqL.of h), rfl, flat_txts _, ?_⟩
  rw [in_txts]
  exact q
theorem rd_notInTx {K : PySem.W.Frag} {H : Hp} {Q : VK} {p : Addr} {t : List Nat} {l : List (List Nat)} (h : H p = some (.lst (l.map fun w => V.str (txt w)))) (q : Q (.bl (!decide (t ∈ l))) H) : rIn K true (.str (txt t)) (.ref p) H Q := by
  refine ⟨p, _, rfl, .inl (SqL.of h), rfl, flat_txts _, ?_⟩
  rw [in_txts]
  exact q
theorem rd_indexNum {K : PySem.W.Frag} {H : Hp} {Q : VK} {p : Addr} {k : Nat} (hk : k < 12) (h : H p = some (.lst (NUMS.map fun w => V.str (txt w)))) (q : Q (.int (k : Nat)) H) : rIndex K (.ref p) [.str (txt (TL.numL k))] H Q := by
  have hl : NUMS.length = 12 := by simp [NUMS]
  have g : ∀ m, m < 12 → (NUMS.map fun w => V.str (txt w))[m]? = some (.str (txt (TL.numL m))) := fun m hm => by
    unfold NUMS
    rw [List.getElem?_map, List.getElem?_map, List.getElem?_eq_getElem (by simpa using hm)]
    simp
  refine ⟨p, _, _, k, _, rfl, rfl, SqL.of h, rfl, flat_txts _, g k hk, ?_, fun m z' hm e => ?_, q⟩
  · show (txt (TL.numL k) == txt (TL.numL k)) = true
    exact beq_self_eq_true _
  · rw [g m (by omega)] at e
    cases e
    show (txt (TL.numL m) == txt (TL.numL k)) = false
    have : (txt (TL.numL m) == txt (TL.numL k)) = decide (TL.numL m = TL.numL k) := SX.S_beq_eq
    rw [this]
    exact decide_eq_false fun e => by have := TL.numL_inj e; omega
theorem atI_m2 {α : Type} (xs : List α) (u v : α) : atI (xs ++ [u, v]) (-2) = some u := by
  unfold atI ixN
  have hl : (xs ++ [u, v]).length = xs.length + 2 := by simp
  rw [hl, if_neg (by decide), if_pos (by omega)]
  have e : ((-2 : Int) + ((xs.length + 2 : Nat) : Int)).toNat = xs.length := by omega
  show (xs ++ [u, v])[((-2 : Int) + ((xs.length + 2 : Nat) : Int)).toNat]? = _
  rw [e, List.getElem?_append_right (Nat.le_refl _), Nat.sub_self]
  rfl
/-- the reading with and without a guard, for few words -/
theorem readL_few {row : List Nat} (h : (TL.spl [32] 0 [] row).length < 4) : readL row = readW (TL.spl [32] 0 [] row) [] := by
  unfold readL
  generalize TL.spl [32] 0 [] row = ws at *
  show (if isIf ws = true then (if (1 ≤ (ws.getLastD []).length ∧ (ws.getLastD []).length ≤ 12) ∧ (ws.getLastD []).all isSg = true then readW (ws.take (ws.length - 2)) (ws.getLastD []) else none) else readW ws []) = _
  by_cases k : isIf ws = true
  · rw [if_pos k]
    obtain ⟨k1, k2⟩ : 2 ≤ ws.length ∧ ws.getD (ws.length - 2) [] = wIf := of_decide_eq_true k
    match ws, h, k1, k2 with
    | [a, b], _, _, k2 =>
      have k2 : a = wIf := k2
      have e1 : readW [a, b] [] = none := if_neg fun z => by rw [k2] at z; exact absurd z.1 (by decide)
      rw [e1]
      split <;> rfl
    | [a, b, c], _, _, _ =>
      show (if _ then none else none) = none
      split <;> rfl
    | [a], _, k1, _ => exact absurd (show 2 ≤ 1 from k1) (by decide)
    | [], _, k1, _ => exact absurd (show 2 ≤ 0 from k1) (by decide)
    | _ :: _ :: _ :: _ :: _, h, _, _ => exact absurd h (by simp)
  · rw [if_neg k]
end Rv
namespace K05
open PySem PySem.Spec PyProof.Rows L2 Rv
def top (i : Nat) : Stmt := PySem.Challenge.pw_redolots_k05_whole_wrong_texts.main.body.getD i (.Pass ⟨0, 0, 0, 0⟩)
abbrev shas_guard_signs : Stmt := top 9
theorem schas_guard_signs : FnScope ["text", "sign"] ["text"] (defScope shas_guard_signs) := ⟨rfl, rfl, rfl, by decide +kernel, rfl, by decide +kernel, by decide +kernel⟩
abbrev sread_script : Stmt := top 12
theorem scread_script : FnScope ["text", "rows", "script", "at", "row", "line"] ["text"] (defScope sread_script) := ⟨rfl, rfl, rfl, by decide +kernel, rfl, by decide +kernel, by decide +kernel⟩
abbrev s_read_line : Stmt := top 13
theorem sc_read_line : FnScope ["row", "words", "guard"] ["row"] (defScope s_read_line) := ⟨rfl, rfl, rfl, by decide +kernel, rfl, by decide +kernel, by decide +kernel⟩
abbrev s_read_words : Stmt := top 14
theorem sc_read_words : FnScope ["words", "guard", "target", "op", "source"] ["words", "guard"] (defScope s_read_words) := ⟨rfl, rfl, rfl, by decide +kernel, rfl, by decide +kernel, by decide +kernel⟩
abbrev s_law_bag : Stmt := top 16
theorem sc_law_bag : FnScope ["script", "cell"] ["script"] (defScope s_law_bag) := ⟨rfl, rfl, rfl, by decide +kernel, rfl, by decide +kernel, by decide +kernel⟩
abbrev s_law_draw : Stmt := top 17
theorem sc_law_draw : FnScope ["bag", "many", "cell", "digit", "one", "two", "three"] ["bag", "many"] (defScope s_law_draw) := ⟨rfl, rfl, rfl, by decide +kernel, rfl, by decide +kernel, by decide +kernel⟩
abbrev s_law_row : Stmt := top 18
theorem sc_law_row : FnScope ["bag", "n", "wide", "word", "target", "origin", "guard", "k"] ["bag", "n", "wide"] (defScope s_law_row) := ⟨rfl, rfl, rfl, by decide +kernel, rfl, by decide +kernel, by decide +kernel⟩
abbrev s_law_is_whole : Stmt := top 19
theorem sc_law_is_whole : FnScope ["told"] ["told"] (defScope s_law_is_whole) := ⟨rfl, rfl, rfl, by decide +kernel, rfl, by decide +kernel, by decide +kernel⟩
abbrev s_law_written : Stmt := top 20
theorem sc_law_written : FnScope ["row", "text"] ["row"] (defScope s_law_written) := ⟨rfl, rfl, rfl, by decide +kernel, rfl, by decide +kernel, by decide +kernel⟩
abbrev s_law_same_rows : Stmt := top 21
theorem sc_law_same_rows : FnScope ["told", "due", "k", "row"] ["told", "due"] (defScope s_law_same_rows) := ⟨rfl, rfl, rfl, by decide +kernel, rfl, by decide +kernel, by decide +kernel⟩
abbrev s_law_char : Stmt := top 22
theorem sc_law_char : FnScope ["bag", "chars"] ["bag"] (defScope s_law_char) := ⟨rfl, rfl, rfl, by decide +kernel, rfl, by decide +kernel, by decide +kernel⟩
abbrev s_law_bent_word : Stmt := top 23
theorem sc_law_bent_word : FnScope ["bag", "words", "spot", "way", "word", "before", "after"] ["bag", "words", "spot", "way"] (defScope s_law_bent_word) := ⟨rfl, rfl, rfl, by decide +kernel, rfl, by decide +kernel, by decide +kernel⟩
abbrev s_law_bent : Stmt := top 24
theorem sc_law_bent : FnScope ["bag", "text", "way", "spot", "words"] ["bag", "text"] (defScope s_law_bent) := ⟨rfl, rfl, rfl, by decide +kernel, rfl, by decide +kernel, by decide +kernel⟩
abbrev s_law_block : Stmt := top 25
theorem sc_law_block : FnScope ["word", "numbers", "k"] ["word"] (defScope s_law_block) := ⟨rfl, rfl, rfl, by decide +kernel, rfl, by decide +kernel, by decide +kernel⟩
abbrev s_law_good_guard : Stmt := top 26
theorem sc_law_good_guard : FnScope ["guard", "sign"] ["guard"] (defScope s_law_good_guard) := ⟨rfl, rfl, rfl, by decide +kernel, rfl, by decide +kernel, by decide +kernel⟩
abbrev s_law_read_row : Stmt := top 27
theorem sc_law_read_row : FnScope ["text", "words", "guard", "target", "origin"] ["text"] (defScope s_law_read_row) := ⟨rfl, rfl, rfl, by decide +kernel, rfl, by decide +kernel, by decide +kernel⟩
abbrev s_law_read : Stmt := top 28
theorem sc_law_read : FnScope ["text", "rows", "pieces", "k", "row"] ["text"] (defScope s_law_read) := ⟨rfl, rfl, rfl, by decide +kernel, rfl, by decide +kernel, by decide +kernel⟩
abbrev s_law_told : Stmt := top 29
theorem sc_law_told : FnScope ["text", "told", "raised", "other"] ["text"] (defScope s_law_told) := ⟨rfl, rfl, rfl, by decide +kernel, rfl, by decide +kernel, by decide +kernel⟩
abbrev s_law_refused : Stmt := top 30
theorem sc_law_refused : FnScope ["text"] ["text"] (defScope s_law_refused) := ⟨rfl, rfl, rfl, by decide +kernel, rfl, by decide +kernel, by decide +kernel⟩
abbrev s_law_asked : Stmt := top 31
theorem sc_law_asked : FnScope ["text", "due", "told"] ["text"] (defScope s_law_asked) := ⟨rfl, rfl, rfl, by decide +kernel, rfl, by decide +kernel, by decide +kernel⟩
abbrev s_law_ended : Stmt := top 32
theorem sc_law_ended : FnScope ["bag", "text", "way"] ["bag", "text"] (defScope s_law_ended) := ⟨rfl, rfl, rfl, by decide +kernel, rfl, by decide +kernel, by decide +kernel⟩
abbrev slaw : Stmt := top 33
theorem sclaw : FnScope ["script", "bag", "size", "texts", "bent", "turn", "spot", "text", "wrong", "pieces", "front", "told", "k", "piece"] ["script"] (defScope slaw) := ⟨rfl, rfl, rfl, by decide +kernel, rfl, by decide +kernel, by decide +kernel⟩
abbrev sInvalidTextu_initu : Stmt := inClass (top 4) 0
theorem scInvalidTextu_initu : FnScope ["self", "line"] ["self", "line"] (defScope sInvalidTextu_initu) := ⟨rfl, rfl, rfl, by decide +kernel, rfl, by decide +kernel, by decide +kernel⟩
structure Top (K : PySem.W.Frag) (mg : Str → Option Value) : Prop where
  d_has_guard_signs : ∃ f fd, Def K mg "has_guard_signs" shas_guard_signs ["text"] f fd
  d_read_script : ∃ f fd, Def K mg "read_script" sread_script ["text"] f fd
  d__read_line : ∃ f fd, Def K mg "_read_line" s_read_line ["row"] f fd
  d__read_words : ∃ f fd, Def K mg "_read_words" s_read_words ["words", "guard"] f fd
  d__law_bag : ∃ f fd, Def K mg "_law_bag" s_law_bag ["script"] f fd
  d__law_draw : ∃ f fd, Def K mg "_law_draw" s_law_draw ["bag", "many"] f fd
  d__law_row : ∃ f fd, Def K mg "_law_row" s_law_row ["bag", "n", "wide"] f fd
  d__law_is_whole : ∃ f fd, Def K mg "_law_is_whole" s_law_is_whole ["told"] f fd
  d__law_written : ∃ f fd, Def K mg "_law_written" s_law_written ["row"] f fd
  d__law_same_rows : ∃ f fd, Def K mg "_law_same_rows" s_law_same_rows ["told", "due"] f fd
  d__law_char : ∃ f fd, Def K mg "_law_char" s_law_char ["bag"] f fd
  d__law_bent_word : ∃ f fd, Def K mg "_law_bent_word" s_law_bent_word ["bag", "words", "spot", "way"] f fd
  d__law_bent : ∃ f fd, Def K mg "_law_bent" s_law_bent ["bag", "text"] f fd
  d__law_block : ∃ f fd, Def K mg "_law_block" s_law_block ["word"] f fd
  d__law_good_guard : ∃ f fd, Def K mg "_law_good_guard" s_law_good_guard ["guard"] f fd
  d__law_read_row : ∃ f fd, Def K mg "_law_read_row" s_law_read_row ["text"] f fd
  d__law_read : ∃ f fd, Def K mg "_law_read" s_law_read ["text"] f fd
  d__law_told : ∃ f fd, Def K mg "_law_told" s_law_told ["text"] f fd
  d__law_refused : ∃ f fd, Def K mg "_law_refused" s_law_refused ["text"] f fd
  d__law_asked : ∃ f fd, Def K mg "_law_asked" s_law_asked ["text"] f fd
  d__law_ended : ∃ f fd, Def K mg "_law_ended" s_law_ended ["bag", "text"] f fd
  d_law : ∃ f fd, Def K mg "law" slaw ["script"] f fd
  b_ValueError : mg "ValueError" = none
  b_abs : mg "abs" = none
  b_all : mg "all" = none
  b_bool : mg "bool" = none
  b_enumerate : mg "enumerate" = none
  b_int : mg "int" = none
  b_isinstance : mg "isinstance" = none
  b_len : mg "len" = none
  b_list : mg "list" = none
  b_range : mg "range" = none
  b_str : mg "str" = none
  b_tuple : mg "tuple" = none
  k_EMPTY : ∃ u, mg "EMPTY" = some u ∧ RelV (.int (-1)) u
  k_MOST_LINES : ∃ u, mg "MOST_LINES" = some u ∧ RelV (.int (60)) u
  k__GUARD_SIGNS : ∃ u, mg "_GUARD_SIGNS" = some u ∧ RelV (.str ".*-0123456789") u
  k__NUMBERS : ∃ a, (∃ u, mg "_NUMBERS" = some u ∧ RelV (.ref a) u) ∧ ∀ H, SqT K H a [.str (Str.ofString "0"), .str (Str.ofString "1"), .str (Str.ofString "2"), .str (Str.ofString "3"), .str (Str.ofString "4"), .str (Str.ofString "5"), .str (Str.ofString "6"), .str (Str.ofString "7"), .str (Str.ofString "8"), .str (Str.ofString "9"), .str (Str.ofString "10"), .str (Str.ofString "11")]
  e_err : ∃ (fI : Addr) (fd : FuncData), ErrT K mg (atTop K "InvalidText") fI "InvalidText" "line" ∧ Fun K "__init__" "InvalidText.__init__" sInvalidTextu_initu fI fd ∧ Binds K fd ["self", "line"] []
  e_line : ∃ c, (∃ u, mg "InvalidLine" = some u ∧ RelV (.ref c) u) ∧ PySem.W.kitOne K (.ref (atTop K "InvalidText")) (.ref c) = some false
  e_image : ∃ c, (∃ u, mg "InvalidImage" = some u ∧ RelV (.ref c) u) ∧ PySem.W.kitOne K (.ref (atTop K "InvalidText")) (.ref c) = some false
  e_ve : PySem.W.kitOne K (.ref (atTop K "InvalidText")) (.type "ValueError") = some true
  e_self : PySem.W.exmOne K (.ref (atTop K "InvalidText")) (.ref (atTop K "InvalidText")) = some true
  e_redo : ∃ c, mg "RedoError" = some (.ref c) ∧ PySem.W.exmOne K (.ref (atTop K "InvalidText")) (.ref c) = some true
/-- what the suite of _law_told says -/
def tsTold (K : PySem.W.Frag) (a : Addr) (cls : Value) (d : Option Addr) (C cL cI : Addr) : TS :=
  tSeq (tAsg (tOrV (tCB (rIsX K C a cls d) (tCons (tVar 2) (tCons (tC (.ref cL)) tNil))) (tCB (rIsX K C a cls d) (tCons (tVar 2) (tCons (tC (.ref cI)) tNil)))) (gName 3))
    (tRet (tLst (tCons (tC (.int 1)) (tCons (tXf a cls d C "line" (tVar 2)) (tCons (tAndV (tCB (rIsX K C a cls d) (tCons (tVar 2) (tCons (tC (.ty "ValueError")) tNil))) (tNotV (tVar 3))) tNil)))))
theorem okInit {P : Program} {w : World} {K : PySem.W.Frag} {mg : Str → Option Value} {base : Heap} {C fI : Addr} {fd : FuncData} (ET : ErrT K mg C fI "InvalidText" "line") (F : Fun K "__init__" "InvalidText.__init__" sInvalidTextu_initu fI fd) : FnOk P w K mg base CX0 1 fI fd ["self", "line"] (spErr C "line") := by
  refine F.ok scInvalidTextu_initu (fun vs H Q E h => ?_) (fun cdv A outer s H vs Q E hr h => ?_)
  · obtain ⟨a, v, rfl, _⟩ := h
    rfl
  · obtain ⟨a, v, rfl, ea, q⟩ := h
    exact ⟨_, pss_one (ps_ost (pv 0) (pv 1)), _, rfl, _, rfl, a, C, rfl, ET.ox, ET.noN, .inl ⟨ea, fun d nd ne => q d nd ne⟩⟩
local macro_rules | `(tactic| walk_at "hp") => `(tactic| first
  | assumption
  | exact upd_same
  | ((refine (upd_ne (by assumption)).trans ?_); walk_at "hp")
  | ((refine (upd_ne (Ne.symm (by assumption))).trans ?_); walk_at "hp")
  | ((refine Rv.back (by assumption) ?_); walk_at "hp")
  | ((refine Rv.Wd.tup (by assumption) ?_); walk_at "hp")
  | ((refine Rv.Wd.lst (by assumption) (by assumption) ?_); walk_at "hp"))
local macro_rules | `(tactic| walk_at "r1") => `(tactic| (first
  | ((with_reducible refine' rd_var ?hv ?_); (case hv => exact rfl))
  | with_reducible refine rd_c ?_
  | with_reducible refine rd_seq ?_
  | with_reducible refine rd_next ?_
  | with_reducible refine rd_asg ?_
  | with_reducible refine rd_name ?_
  | with_reducible refine rd_op ?_
  | with_reducible refine rd_un ?_
  | with_reducible refine rd_U ?_
  | with_reducible refine rd_I0 ?_
  | ((with_reducible refine' rd_I ?hc ?_); (case hc => first | exact .inr ⟨by decide, by decide⟩ | exact .inl ⟨by decide, by decide⟩ | exact ⟨by decide, by decide, by decide⟩ | exact ⟨by decide, by decide⟩ | (show (_ : Int) ≠ _; decide) | assumption))
  | ((with_reducible refine' rd_eq ?hc ?_); (case hc => exact rfl))
  | ((with_reducible refine' rd_ne ?hc ?_); (case hc => exact rfl))
  | with_reducible refine rd_test ?_
  | with_reducible refine rd_B ?_
  | with_reducible refine rd_k ?_
  | with_reducible refine rd_not ?_
  | with_reducible refine rd_notV ?_
  | with_reducible refine rd_and ?_
  | with_reducible refine rd_or ?_
  | with_reducible refine rd_andV ?_
  | with_reducible refine rd_orV ?_
  | with_reducible refine rd_if ?_
  | with_reducible refine rd_chain ?_
  | with_reducible refine rd_sub ?_
  | with_reducible refine rd_gcons ?_
  | with_reducible refine rd_gnil ?_
  | with_reducible refine rd_ret ?_
  | with_reducible refine rd_drop ?_
  | with_reducible refine rd_ifS ?_
  | with_reducible refine rd_cons ?_
  | with_reducible refine rd_nil ?_
  | with_reducible refine rd_CB ?_
  | with_reducible refine rd_call ?_
  | with_reducible refine rd_tup ?_
  | with_reducible refine rd_lst ?_
  | with_reducible refine rd_yes ?_
  | with_reducible refine rd_M1 ?_
  | with_reducible refine rd_intQ ?_
  | with_reducible refine rd_absQ ?_
  | with_reducible refine rd_minQ ?_
  | ((with_reducible refine' rd_tupQ ?hz ?_); (case hz => walk_at "hp"))
  | ((with_reducible refine' rd_lstL ?hz ?_); (case hz => walk_at "hp"))
  | with_reducible refine rd_for ?_
  | with_reducible refine rd_lc ?_
  | with_reducible refine rd_iTup ?_
  | with_reducible refine rd_iList ?_
  | with_reducible refine rd_iEnT ?_
  | with_reducible refine rd_iEnS ?_
  | with_reducible refine rd_iZpS ?_
  | with_reducible refine rd_iRg1 ?_
  | ((with_reducible refine' rd_ItT ?hz ?_); (case hz => walk_at "hp"))
  | ((with_reducible refine' rd_ItL ?hz ?_); (case hz => walk_at "hp"))
  | ((with_reducible refine' rd_EnT ?hz ?_); (case hz => walk_at "hp"))
  | with_reducible refine rd_EnS ?_
  | with_reducible refine rd_ZpS ?_
  | ((with_reducible refine' rd_ixS ?hz ?he ?_); (case hz => assumption); (case he => assumption))
  | ((with_reducible refine' rd_lenZ ?hz ?_); (case hz => assumption))
  | ((with_reducible refine' rd_Rg1 ?hz ?_); (case hz => assumption))
  | with_reducible refine rd_sgn ?_
  | with_reducible refine rd_sl ?_
  | with_reducible refine rd_noP ?_
  | with_reducible refine rd_part ?_
  | with_reducible refine rd_i ?_
  | ((with_reducible refine' iteD ?hz ?_); (case hz => assumption))
  | ((with_reducible refine' iteE ?hz ?_); (case hz => assumption))
  | ((with_reducible refine' iteNS ?hz ?_); (case hz => assumption))
  | ((with_reducible refine' iteN2 ?hz ?_); (case hz => assumption))
  | with_reducible refine iteT ?_
  | with_reducible refine iteF ?_
  | with_reducible refine iteNT ?_
  | with_reducible refine iteNF ?_
  | ((with_reducible refine' rd_isiI ?hk ?_); (case hk => first | exact kit_ii | exact kit_ib))
  | ((with_reducible refine' rd_isiS ?hk ?_); (case hk => exact kit_ss))
  | ((with_reducible refine' rd_isiB ?hk ?_); (case hk => first | exact kit_bb | exact kit_bi))
  | ((with_reducible refine' rd_isiT ?hz ?hk ?_); (case hz => walk_at "hp"); (case hk => exact kit_tt))
  | ((with_reducible refine' rd_isiL ?hz ?hk ?_); (case hz => walk_at "hp"); (case hk => exact kit_ll))
  | ((with_reducible refine' rd_lenT ?hz ?_); (case hz => walk_at "hp"))
  | ((with_reducible refine' rd_lenL ?hz ?_); (case hz => walk_at "hp"))
  | ((with_reducible refine' rd_ixT ?hz ?he ?_); (case hz => walk_at "hp"); (case he => first | exact rfl | assumption))
  | ((with_reducible refine' rd_ixM ?hz ?he ?_); (case hz => walk_at "hp"); (case he => first | exact rfl | assumption))
  | ((with_reducible refine' rd_setL ?hz ?he ?_); (case hz => walk_at "hp"); (case he => first | exact rfl | assumption))
  | ((with_reducible refine' rd_gtup ?hz ?he ?_); (case hz => walk_at "hp"); (case he => first | exact rfl | assumption))
  ))
local macro_rules | `(tactic| walk_at "rd") => `(tactic| repeat (walk_at "r1"))
local macro_rules | `(tactic| walk_at "re") => `(tactic| repeat (first
  | walk_at "r1"
  | ((with_reducible refine' rd_BMv ?hv ?hz ?_); (case hv => exact rfl); (case hz => walk_at "hp"))
  | ((with_reducible refine' rd_app ?hz ?hl ?_); (case hz => walk_at "hp"); (case hl => assumption))
  | with_reducible refine rd_iEnum ?_
  | ((with_reducible refine' rd_EnL ?hz ?_); (case hz => walk_at "hp"))
  | with_reducible refine rd_iStr ?_
  | with_reducible refine rd_ItS ?_
  ))
local macro_rules | `(tactic| walk_at "rt") => `(tactic| repeat (first
  | walk_at "r1"
  | ((with_reducible refine' rd_BMv ?hv ?hz ?_); (case hv => exact rfl); (case hz => walk_at "hp"))
  | ((with_reducible refine' rd_app ?hz ?hl ?_); (case hz => walk_at "hp"); (case hl => assumption))
  | with_reducible refine rd_iEnum ?_
  | ((with_reducible refine' rd_EnL ?hz ?_); (case hz => walk_at "hp"))
  | with_reducible refine rd_iStr ?_
  | with_reducible refine rd_ItS ?_
  | with_reducible refine rd_isN ?_
  | with_reducible refine rd_M1g ?_
  | with_reducible refine rd_isS ?_
  | with_reducible refine rd_tjoin ?_
  | with_reducible refine rd_jsn ?_
  | with_reducible refine rd_match ?_
  | with_reducible refine rd_raise ?_
  | with_reducible refine rd_mkO ?_
  | with_reducible refine rd_callS ?_
  | with_reducible refine rd_xfQ ?_
  | with_reducible refine rd_tcNil ?_
  | ((with_reducible refine' rd_inNums ?hz ?_); (case hz => assumption))
  | ((with_reducible refine' rd_lenNums ?hz ?_); (case hz => assumption))
  ))
section
variable {P : Program} {w : World} {K : PySem.W.Frag} {mg : Str → Option Value} {base : Heap}
def sp_law_bag (K : PySem.W.Frag) : Sp := fun vs H Q _ => ∃ (a : Addr) (ns : List Int), vs = [.ref a] ∧ SqL K H a (ns.map V.int) ∧ ns.length ≤ 63 ∧ ∀ H' c b ms, Bag c ms b H' → Same H H' → Q (.ref b) H'
set_option maxHeartbeats 4000000 in
theorem ok_law_bag (T : Top K mg) {f : Addr} {fd : FuncData} (D : Def K mg "_law_bag" s_law_bag ["script"] f fd) : FnOk P w K mg base CX0 1 f fd ["script"] (sp_law_bag K) := by
  refine D.F.ok sc_law_bag (fun vs H Q E h => ?_) (fun cdv A outer s H vs Q E hr h => ?_)
  · obtain ⟨a, ns, rfl, _⟩ := h
    rfl
  · obtain ⟨a, ns, rfl, hS, hl, q⟩ := h
    refine ⟨_, (pss_one (ps_ret (pe_lst (pa_cons (pe_lc (own := [("cell", 1)]) (g := gName 1) (tt := tYes) rfl sc_law_bag.nd (pi_list (pe_slice sl_list (pv 0) po_none (po_some pe_int)))
      (blkOk_by (own := [("cell", 1)]) (N := ["script", "cell"]) (sc := defScope s_law_bag) (by decide +kernel)) (fun _ _ _ _ _ => (pg_name (i := 1) sc_law_bag.nd rfl (.inl rfl))) (fun _ _ _ _ _ => pts_nil)
      (fun _ _ _ _ _ => (pe_callTy call_intQ (by rfl) T.b_int (by decide +kernel) (pa_cons (pv 1) pa_nil)))) (pa_cons pe_int (pa_cons pe_int (pa_cons pe_int (pa_cons pe_int pa_nil)))))))), ?_⟩
    walk_at "rd"
    refine rd_slL hS fun l nl => ?_
    obtain ⟨ms, em, hm⟩ : ∃ ms : List Int, cutV (ns.map V.int) none (some 63) = ms.map V.int ∧ ms.length ≤ 63 := by
      refine ⟨ns.take (HT.sIx (ns.map V.int).length (ns.map V.int).length (some 63) - 0), ?_, ?_⟩
      · unfold cutV
        show List.take _ (List.drop 0 (ns.map V.int)) = _
        rw [List.drop_zero, List.map_take]
        rfl
      · rw [List.length_take]
        omega
    rw [em]
    obtain ⟨H1, eH, S1, h1⟩ := new_gen (.lst (ms.map V.int)) nl
    rw [← eH]
    walk_at "rd"
    refine lc_map (walk_list (xs := ms.map V.int)) (ms.map V.int) ?_ ?_ (fun H' S => SqL.of (S _ _ h1)) ?_ ?_
    · rfl
    · rw [List.length_map]
      omega
    · rintro i x H3 H4 Qc R hi S ⟨rfl, ex⟩ qc
      have ex0 := ex
      have hi2 : i < ms.length := by rw [List.length_map] at hi; exact hi
      rw [List.getElem?_map, List.getElem?_eq_getElem hi2] at ex
      cases ex
      walk_at "rd"
      refine ⟨rfl, ?_⟩
      walk_at "rd"
      exact qc _ _ (Same.refl _) ex0
    · intro H3 D S nD hD
      walk_at "rd"
      refine ⟨len1000 (by simp), fun p np => ?_⟩
      have nDp : D ≠ p := ne_of_none hD np
      exact q _ D p ms ⟨nDp, by rw [upd_ne nDp]; exact hD, 0, 0, _, 0, upd_same, Int.le_refl _⟩ (same_new (S1.trans S) np)
def sp_law_draw (_K : PySem.W.Frag) : Sp := fun vs H Q _ => ∃ (c b : Addr) (ns : List Int) (m : Int), vs = [.ref b, .int m] ∧ Bag c ns b H ∧ 0 < m ∧ m < 1000 ∧ ∀ H' d, Wd c ns b H H' → 0 ≤ d → d < m → Q (.int d) H'
set_option maxHeartbeats 4000000 in
theorem ok_law_draw (T : Top K mg) {f : Addr} {fd : FuncData} (D : Def K mg "_law_draw" s_law_draw ["bag", "many"] f fd) : FnOk P w K mg base CX0 1 f fd ["bag", "many"] (sp_law_draw K) := by
  refine D.F.ok sc_law_draw (fun vs H Q E h => ?_) (fun cdv A outer s H vs Q E hr h => ?_)
  · obtain ⟨c, b, ns, m, rfl, _⟩ := h
    rfl
  · obtain ⟨c, b, ns, m, rfl, B, m0, m1, q⟩ := h
    have ⟨hcb, hc, i, bu, se, cn, hb, hi0⟩ := B
    refine ⟨_, (pss_cons (ps_asg (pe_op op_add (pe_ix (r := rIxL K) ix_list (pv 0) pe_int (fun _ _ => rfl)) pe_int) (pg_sub (pv 0) pe_int set_list))
    (C8.pss_cut (ps_if (PW.pt (pw_and (pt_cmpR op_eq (pe_ix (r := rIxL K) ix_list (pv 0) pe_int (fun _ _ => rfl)) pe_int (nomark _)) (pw_and1 (pt_cmpR op_lt (pe_ix (r := rIxL K) ix_list (pv 0) pe_int (fun _ _ => rfl)) (pe_callB (r := rLenQ K) call_lenQ (by rfl) T.b_len PySem.boot_len (pa_cons (pe_ix (r := rIxL K) ix_list (pv 0) pe_int (fun _ _ => rfl)) pa_nil)) (nomark _))))) (pss_cons (ps_set (i := 2) sc_law_draw.nd rfl (.inl rfl) (pe_ix (r := rIxL K) ix_list (pe_ix (r := rIxL K) ix_list (pv 0) pe_int (fun _ _ => rfl)) (pe_ix (r := rIxL K) ix_list (pv 0) pe_int (fun _ _ => rfl)) (fun _ _ => rfl)))
    (pss_cons (ps_asg (pe_op op_add (pe_ix (r := rIxL K) ix_list (pv 0) pe_int (fun _ _ => rfl)) pe_int) (pg_sub (pv 0) pe_int set_list))
    (pss_one (ps_if (pt_cmpR op_ge (pe_callB call_absQ (by rfl) T.b_abs (by decide +kernel) (pa_cons (pv 2) pa_nil)) (pe_op op_pow pe_int pe_int) (nomark _)) (pss_one (ps_asg (pe_callB call_absQ (by rfl) T.b_abs (by decide +kernel) (pa_cons (pv 2) pa_nil)) (pg_sub (pv 0) pe_int set_list))) (pss_one (ps_asg (pe_op op_modN (pe_callTy call_intQ (by rfl) T.b_int (by decide +kernel) (pa_cons (pe_op op_add (pe_op op_add (pe_op op_mul (pe_ix (r := rIxL K) ix_list (pv 0) pe_int (fun _ _ => rfl)) pe_int) (pe_op op_mul (pv 2) pe_int)) pe_int) pa_nil)) pe_int) (pg_sub (pv 0) pe_int set_list))))))) pss_nil)
    (pss_cons (ps_if (pt_cmpR op_gt (pe_ix (r := rIxL K) ix_list (pv 0) pe_int (fun _ _ => rfl)) pe_int (nomark _)) (pss_cons (ps_set (i := 3) sc_law_draw.nd rfl (.inl rfl) (pe_op op_modN (pe_callTy call_intQ (by rfl) T.b_int (by decide +kernel) (pa_cons (pe_ix (r := rIxL K) ix_list (pv 0) pe_int (fun _ _ => rfl)) pa_nil)) (pv 1)))
    (pss_cons (ps_asg (pe_op op_fdivN (pe_callTy call_intQ (by rfl) T.b_int (by decide +kernel) (pa_cons (pe_ix (r := rIxL K) ix_list (pv 0) pe_int (fun _ _ => rfl)) pa_nil)) (pv 1)) (pg_sub (pv 0) pe_int set_list))
    (pss_one (ps_ret (pv 3))))) pss_nil)
    (pss_cons (ps_set (i := 4) sc_law_draw.nd rfl (.inl rfl) (pe_op op_modN (pe_callTy call_intQ (by rfl) T.b_int (by decide +kernel) (pa_cons (pe_op op_add (pe_ix (r := rIxL K) ix_list (pv 0) pe_int (fun _ _ => rfl)) (pe_op op_mul (pe_ix (r := rIxL K) ix_list (pv 0) pe_int (fun _ _ => rfl)) pe_int)) pa_nil)) pe_int))
    (pss_cons (ps_set (i := 5) sc_law_draw.nd rfl (.inl rfl) (pe_op op_modN (pe_callTy call_intQ (by rfl) T.b_int (by decide +kernel) (pa_cons (pe_op op_add (pe_op op_mul (pv 4) (pv 4)) pe_int) pa_nil)) pe_int))
    (pss_cons (ps_set (i := 6) sc_law_draw.nd rfl (.inl rfl) (pe_op op_modN (pe_callTy call_intQ (by rfl) T.b_int (by decide +kernel) (pa_cons (pe_op op_add (pe_op op_add (pe_op op_mul (pv 5) pe_int) (pe_op op_fdivN (pv 5) pe_int)) (pe_ix (r := rIxL K) ix_list (pv 0) pe_int (fun _ _ => rfl))) pa_nil)) pe_int))
    (pss_one (ps_ret (pe_op op_modN (pe_op op_fdivN (pv 6) pe_int) (pv 1)))))))))), ?_⟩
    walk_at "rd"
    have w1 : Wd c ns b H (upd H b (.lst ([V.ref c, .int i, .int bu, .int se, .int cn].set 4 (.int (cn + 1))))) := (Wd.refl B).put hi0
    refine ⟨fun σ' H' => ∃ y2, σ' = [some (.ref b), some (.int m), y2, none, none, none, none] ∧ Wd c ns b H H', ?_, ?_⟩
    · walk_at "rd"
      refine ite2 (fun z => ?_) (fun z => ?_)
      · walk_at "rd"
        refine ite2 (fun y => ?_) (fun y => ?_)
        · have y1 : i < ((ns.map V.int).length : Int) := of_decide_eq_true y
          obtain ⟨v, e1, e2, e3⟩ := atI_int hi0 y1
          obtain ⟨k, _, rfl⟩ := List.mem_map.mp e3
          walk_at "rd"
          refine ite2 (fun x => ?_) (fun x => ?_)
          · walk_at "rd"
            exact ⟨_, rfl, (((Wd.refl B).put hi0).put (by omega)).put (by omega)⟩
          · walk_at "rd"
            exact ⟨_, rfl, (((Wd.refl B).put hi0).put (by omega)).put (by omega)⟩
        · walk_at "rd"
          exact ⟨_, rfl, w1⟩
      · walk_at "rd"
        exact ⟨_, rfl, w1⟩
    · rintro σ' H' ⟨y2, rfl, w⟩
      have ⟨_, hc', i', bu', se', cn', hb', hi'⟩ := w.b1
      walk_at "rd"
      refine ite2 (fun z => ?_) (fun z => ?_)
      · walk_at "rd"
        refine rd_I (show m ≠ 0 by omega) ?_
        walk_at "rd"
        refine rd_I (show CDivN bu' m from ⟨by omega, by omega⟩) ?_
        walk_at "rd"
        exact q _ _ (w.put hi') (fmod_in m0).1 (fmod_in m0).2
      · walk_at "rd"
        refine rd_I (show CMul _ _ from .inl ⟨by have := (fmod_in (a := se' + cn' * 7368787) (m := 2147483647) (by decide)); omega, by have := (fmod_in (a := se' + cn' * 7368787) (m := 2147483647) (by decide)); omega⟩) ?_
        walk_at "rd"
        refine rd_I (show m ≠ 0 by omega) ?_
        exact q _ _ w (fmod_in m0).1 (fmod_in m0).2
def sp_law_written (_K : PySem.W.Frag) : Sp := fun vs H Q _ => ∃ (a : Addr) (r : Ln), vs = [.ref a] ∧ H a = some (.tup r.vals) ∧ RdOk r ∧ Q (.str (txt (writ r ++ [10]))) H
set_option maxHeartbeats 4000000 in
theorem ok_law_written (T : Top K mg) {f : Addr} {fd : FuncData} (D : Def K mg "_law_written" s_law_written ["row"] f fd) : FnOk P w K mg base CX0 1 f fd ["row"] (sp_law_written K) := by
  refine D.F.ok sc_law_written (fun vs H Q E h => ?_) (fun cdv A outer s H vs Q E hr h => ?_)
  · obtain ⟨a, r, rfl, _⟩ := h
    rfl
  · obtain ⟨a, r, rfl, hA, ok, q⟩ := h
    have t0 := ok.t0
    have t1 := ok.t1
    have gl := ok.gl
    have wp := writ_parts (r := r)
    rw [wp] at q
    clear wp
    have word := ok.word
    clear ok
    obtain ⟨w, t, o, g⟩ := r
    have t0 : 0 ≤ t := t0
    have t1 : t < 12 := t1
    have gl : g.length ≤ 12 := gl
    have word : (w = sClear ∧ o = -1) ∨ ((w = sCopy ∨ w = sMove) ∧ 0 ≤ o ∧ o < 12 ∧ o ≠ t) := word
    obtain ⟨n, rfl⟩ : ∃ n : Nat, t = n := ⟨t.toNat, by omega⟩
    have hA : H a = some (.tup [.str w, .int (n : Int), .int o, .str (txt g)]) := hA
    have n12 : n < 12 := by omega
    have nl := num_len n12
    have q : Q (.str (txt (((if w = sClear then wClear ++ ([32] ++ TL.numL n) else w.cps.toList ++ ([32] ++ (TL.numL n ++ ([32, 60, 45, 32] ++ TL.numL o.toNat)))) ++ (if g = [] then [] else [32, 105, 102, 32] ++ g)) ++ [10]))) H := q
    obtain ⟨wl, rfl⟩ : ∃ wl, w = txt wl := ⟨_, (txt_wd w).symm⟩
    have wl10 : wl.length ≤ 10 := by
      rcases word with ⟨k, _⟩ | ⟨k | k, _⟩ <;> (have k2 : wl = _ := congrArg (fun s : Str => s.cps.toList) k; rw [k2]; decide)
    have ec : (txt wl).cps.toList = wl := rfl
    rw [ec] at q
    refine ⟨_, (pss_cons (ps_set (i := 1) sc_law_written.nd rfl (.inl rfl) (pe_op op_addZ (pe_op op_addZ (pe_ix (r := rIxT K) ix_tup (pv 0) pe_int (fun _ _ => rfl)) pe_str) (pe_callTy call_strQ (by rfl) T.b_str (by decide +kernel) (pa_cons (pe_ix (r := rIxT K) ix_tup (pv 0) pe_int (fun _ _ => rfl)) pa_nil))))
    (C8.pss_cut (ps_if (pt_cmpR op_ne (pe_ix (r := rIxT K) ix_tup (pv 0) pe_int (fun _ _ => rfl)) pe_str (nomark _)) (pss_one (ps_set (i := 1) sc_law_written.nd rfl (.inl rfl) (pe_op op_addZ (pe_op op_addZ (pv 1) pe_str) (pe_callTy call_strQ (by rfl) T.b_str (by decide +kernel) (pa_cons (pe_ix (r := rIxT K) ix_tup (pv 0) pe_int (fun _ _ => rfl)) pa_nil))))) pss_nil)
    (C8.pss_cut (ps_if (pt_cmpR op_ne (pe_ix (r := rIxT K) ix_tup (pv 0) pe_int (fun _ _ => rfl)) pe_str (nomark _)) (pss_one (ps_set (i := 1) sc_law_written.nd rfl (.inl rfl) (pe_op op_addZ (pe_op op_addZ (pv 1) pe_str) (pe_ix (r := rIxT K) ix_tup (pv 0) pe_int (fun _ _ => rfl))))) pss_nil)
    (pss_one (ps_ret (pe_op op_addZ (pv 1) pe_str)))))), ?_⟩
    walk_at "rt"
    refine rd_addZ (b := [32]) (by simp; omega) ?_
    walk_at "rt"
    refine rd_strN (by omega) ?_
    refine rd_addZ (by simp; omega) ?_
    walk_at "rt"
    refine ⟨fun σ' H' => ∃ x : List Nat, σ' = [some (.ref a), some (.str (txt x))] ∧ H' = H ∧ x = (if txt wl = sClear then wClear ++ ([32] ++ TL.numL n) else wl ++ ([32] ++ (TL.numL n ++ ([32, 60, 45, 32] ++ TL.numL o.toNat)))) ∧ x.length ≤ 100, ?_, ?_⟩
    · walk_at "rt"
      refine ite2 (fun z => ?_) (fun z => ?_)
      · have z1 : txt wl ≠ sClear := fun k => by
          rw [decide_eq_true (show V.str (txt wl) = V.str (Str.ofString "clear") from congrArg V.str k)] at z
          cases z
        obtain ⟨hw, o0, o1, _⟩ := word.resolve_left fun k => z1 k.1
        obtain ⟨m, rfl⟩ : ∃ m : Nat, o = m := ⟨o.toNat, by omega⟩
        have m12 : m < 12 := by omega
        have ml := num_len m12
        walk_at "rt"
        refine rd_addZ (b := [32, 60, 45, 32]) (by simp; omega) ?_
        walk_at "rt"
        refine rd_strN (by omega) ?_
        refine rd_addZ (by simp; omega) ?_
        walk_at "rt"
        refine ⟨_, rfl, rfl, ?_, by simp; omega⟩
        rw [if_neg z1]
        simp
      · have z1 : txt wl = sClear := by
          by_cases k : txt wl = sClear
          · exact k
          · rw [decide_eq_false (fun (e : V.str (txt wl) = V.str (Str.ofString "clear")) => k (V.str.inj e))] at z
            exact absurd rfl z
        walk_at "rt"
        refine ⟨_, rfl, rfl, ?_, by simp; omega⟩
        rw [if_pos z1, ← txt_inj (show txt wl = txt wClear from z1)]
        simp
    · rintro σ' H' ⟨x, rfl, rfl, ex, xl⟩
      rw [← ex] at q
      walk_at "rt"
      refine ⟨fun σ' H1 => ∃ y : List Nat, σ' = [some (.ref a), some (.str (txt y))] ∧ H1 = H' ∧ y = x ++ (if g = [] then [] else [32, 105, 102, 32] ++ g) ∧ y.length ≤ 200, ?_, ?_⟩
      · walk_at "rt"
        refine ite2 (fun z => ?_) (fun z => ?_)
        · have z1 : g ≠ [] := fun k => by
            rw [decide_eq_true (show V.str (txt g) = V.str (Str.ofString "") from by rw [k]; rfl)] at z
            cases z
          walk_at "rt"
          refine rd_addZ (b := [32, 105, 102, 32]) (by simp; omega) ?_
          walk_at "rt"
          refine rd_addZ (by simp; omega) ?_
          walk_at "rt"
          refine ⟨_, rfl, rfl, ?_, by simp; omega⟩
          rw [if_neg z1]
          simp
        · have z1 : g = [] := by
            by_cases k : g = []
            · exact k
            · rw [decide_eq_false (fun (e : V.str (txt g) = V.str (Str.ofString "")) => k (txt_inj (b := []) (V.str.inj e)))] at z
              exact absurd rfl z
          walk_at "rt"
          refine ⟨_, rfl, rfl, ?_, by omega⟩
          rw [if_pos z1, List.append_nil]
      · rintro σ' H1 ⟨y, rfl, rfl, ey, yl⟩
        rw [← ey] at q
        walk_at "rt"
        refine rd_addZ (b := [10]) (by simp; omega) ?_
        exact q
def sp_law_row (_K : PySem.W.Frag) : Sp := fun vs H Q _ => ∃ (c b : Addr) (ns : List Int) (n m : Nat), vs = [.ref b, .int n, .int m] ∧ Bag c ns b H ∧ 1 ≤ n ∧ n ≤ 12 ∧ m ≤ 12 ∧ ∀ H' D r, Wd c ns b H H' → H D = none → H' D = some (.tup r.vals) → RdOk r → Q (.ref D) H'
set_option maxHeartbeats 4000000 in
theorem ok_law_row (T : Top K mg) {f : Addr} {fd : FuncData} (D : Def K mg "_law_row" s_law_row ["bag", "n", "wide"] f fd) : FnOk P w K mg base CX0 2 f fd ["bag", "n", "wide"] (sp_law_row K) := by
  obtain ⟨f_law_draw, fd_law_draw, D_law_draw⟩ := T.d__law_draw
  have G_law_draw : FnOk P w K mg base CX0 1 f_law_draw fd_law_draw ["bag", "many"] (sp_law_draw K) := ok_law_draw T D_law_draw
  refine D.F.ok sc_law_row (fun vs H Q E h => ?_) (fun cdv A outer s H vs Q E hr h => ?_)
  · obtain ⟨c, b, ns, n, m, rfl, _⟩ := h
    rfl
  · obtain ⟨c, b, ns, n, m, rfl, B, n1, n12, m12, q⟩ := h
    have hrg : -100000 ≤ (m : Int) ∧ (m : Int) ≤ 100000 := by omega
    have hn0 : (n : Int) ≠ 0 := by omega
    have pick : ∀ {d : Int}, 0 ≤ d → d < 13 → ∃ s : Nat, atI (Str.ofString ".*-0123456789").cps.toList d = some s ∧ Sign s := fun {d} d0 d1 => by
      obtain ⟨s, es, _, ms⟩ := atI_int (xs := [46, 42, 45, 48, 49, 50, 51, 52, 53, 54, 55, 56, 57]) d0 (by show d < 13; exact d1)
      refine ⟨s, es, ?_⟩
      simp only [List.mem_cons, List.not_mem_nil, or_false] at ms
      unfold Sign
      omega
    have hsz : (Str.ofString ".*-0123456789").length ≤ sizeLine := Nat.le_trans (show _ ≤ 13 by decide) (by decide)
    refine ⟨_, (pss_cons (ps_set (i := 3) sc_law_row.nd rfl (.inl rfl) (pe_ix (r := rIxL K) ix_list (pe_lst (pa_cons pe_str (pa_cons pe_str (pa_cons pe_str pa_nil)))) (pe_call G_law_draw hr (by rfl) D_law_draw.g D_law_draw.F.kp D_law_draw.b .nil pass0 (pa_cons (pv 0) (pa_cons pe_int pa_nil))) (fun _ _ => rfl)))
    (C8.pss_cut (ps_if (pt_cmpR op_eq (pv 1) pe_int (nomark _)) (pss_one (ps_set (i := 3) sc_law_row.nd rfl (.inl rfl) pe_str)) pss_nil)
    (pss_cons (ps_set (i := 4) sc_law_row.nd rfl (.inl rfl) (pe_call G_law_draw hr (by rfl) D_law_draw.g D_law_draw.F.kp D_law_draw.b .nil pass0 (pa_cons (pv 0) (pa_cons (pv 1) pa_nil))))
    (pss_cons (ps_set (i := 5) sc_law_row.nd rfl (.inl rfl) (pe_un un_neg pe_int))
    (C8.pss_cut (ps_if (pt_cmpR op_ne (pv 3) pe_str (nomark _)) (pss_one (ps_set (i := 5) sc_law_row.nd rfl (.inl rfl) (pe_op op_modN (pe_callTy call_intQ (by rfl) T.b_int (by decide +kernel) (pa_cons (pe_op op_add (pe_op op_add (pv 4) pe_int) (pe_call G_law_draw hr (by rfl) D_law_draw.g D_law_draw.F.kp D_law_draw.b .nil pass0 (pa_cons (pv 0) (pa_cons (pe_op op_sub (pv 1) pe_int) pa_nil)))) pa_nil)) (pv 1)))) pss_nil)
    (pss_cons (ps_set (i := 6) sc_law_row.nd rfl (.inl rfl) pe_str)
    (C8.pss_cut (ps_if (pt_cmpR op_eq (pe_call G_law_draw hr (by rfl) D_law_draw.g D_law_draw.F.kp D_law_draw.b .nil pass0 (pa_cons (pv 0) (pa_cons pe_int pa_nil))) pe_int (nomark _)) (pss_one (ps_set (i := 6) sc_law_row.nd rfl (.inl rfl) (Rv.pe_joinT pe_str (pe_lc (own := [("k", 7)]) (g := gName 7) (tt := tYes) rfl sc_law_row.nd (pi_range1 (by rfl) T.b_range (pa_cons (pv 2) pa_nil))
      (blkOk_by (own := [("k", 7)]) (N := ["bag", "n", "wide", "word", "target", "origin", "guard", "k"]) (sc := defScope s_law_row) (by decide +kernel)) (fun _ _ _ _ _ => (pg_name (i := 7) sc_law_row.nd rfl (.inl rfl))) (fun _ _ _ _ _ => pts_nil)
      (fun _ _ _ _ _ => (pe_ix ix_str pe_str (pe_call G_law_draw hr (by rfl) D_law_draw.g D_law_draw.F.kp D_law_draw.b .nil pass0 (pa_cons (pv 0) (pa_cons pe_int pa_nil))) (fun _ _ => rfl))))))) pss_nil)
    (pss_one (ps_ret (pe_tup (pa_cons (pv 3) (pa_cons (pv 4) (pa_cons (pv 5) (pa_cons (pv 6) pa_nil)))))))))))))), ?_⟩
    walk_at "rd"
    refine ⟨len1000 (by simp), fun l nl => ?_⟩
    obtain ⟨H1, eH1, S1, h1⟩ := new_gen (.lst [V.str (Str.ofString "copy"), .str (Str.ofString "move"), .str (Str.ofString "clear")]) nl
    rw [← eH1]
    walk_at "rd"
    refine ⟨c, b, ns, 3, rfl, B.same S1, by decide, by decide, fun H2 d w2 d0 d4 => ?_⟩
    have h12 := w2.lst (B.ne nl) h1
    have w02 : Wd c ns b H H2 := (Wd.ofSame B S1).trans w2
    obtain ⟨wv, ewv, _, mwv⟩ := atI_int (xs := [V.str (Str.ofString "copy"), .str (Str.ofString "move"), .str (Str.ofString "clear")]) d0 (by show d < 3; exact d4)
    obtain ⟨w, rfl, hw⟩ : ∃ w : Str, wv = .str w ∧ (w = sClear ∨ w = sCopy ∨ w = sMove) := by
      simp only [List.mem_cons, List.not_mem_nil, or_false] at mwv
      rcases mwv with k | k | k
      · exact ⟨_, k, .inr (.inl rfl)⟩
      · exact ⟨_, k, .inr (.inr rfl)⟩
      · exact ⟨_, k, .inl rfl⟩
    walk_at "rd"
    refine ⟨fun σ' H' => ∃ w : Str, σ' = [some (.ref b), some (.int n), some (.int m), some (.str w), none, none, none, none] ∧ Wd c ns b H H' ∧ (w = sClear ∨ ((w = sCopy ∨ w = sMove) ∧ 2 ≤ n)), ?_, ?_⟩
    · walk_at "rd"
      refine ite2 (fun z => ?_) (fun z => ?_)
      · walk_at "rd"
        exact ⟨sClear, rfl, w02, .inl rfl⟩
      · have z1 : (n : Int) ≠ 1 := fun e => z (by rw [e]; rfl)
        walk_at "rd"
        refine ⟨w, rfl, w02, ?_⟩
        rcases hw with k | k
        · exact .inl k
        · exact .inr ⟨k, by omega⟩
    · rintro σ' H3 ⟨w, rfl, w03, hw3⟩
      walk_at "rd"
      refine ⟨c, b, ns, n, rfl, w03.b1, by omega, by omega, fun H4 t w4 t0 t1 => ?_⟩
      have w04 := w03.trans w4
      walk_at "rd"
      refine ⟨fun σ' H' => ∃ o : Int, σ' = [some (.ref b), some (.int n), some (.int m), some (.str w), some (.int t), some (.int o), none, none] ∧ Wd c ns b H H' ∧ ((w = sClear ∧ o = -1) ∨ ((w = sCopy ∨ w = sMove) ∧ 0 ≤ o ∧ o < n ∧ o ≠ t)), ?_, ?_⟩
      · walk_at "rd"
        refine ite2 (fun z => ?_) (fun z => ?_)
        · have z1 : w ≠ sClear := fun k => by
            rw [decide_eq_true (show V.str w = V.str (Str.ofString "clear") from congrArg V.str k)] at z
            cases z
          obtain ⟨hw4, hn2⟩ : (w = sCopy ∨ w = sMove) ∧ 2 ≤ n := hw3.resolve_left z1
          walk_at "rd"
          refine ⟨c, b, ns, (n : Int) - 1, rfl, w4.b1, by omega, by omega, fun H5 u w5 u0 u1 => ?_⟩
          have w05 := w04.trans w5
          walk_at "rd"
          have ho : 0 ≤ (t + 1 + u).fmod n ∧ (t + 1 + u).fmod n < n ∧ (t + 1 + u).fmod n ≠ t := by
            refine ⟨(fmod_in (by omega)).1, (fmod_in (by omega)).2, ?_⟩
            rw [Int.fmod_eq_emod_of_nonneg _ (by omega)]
            by_cases k : t + 1 + u < n
            · rw [Int.emod_eq_of_lt (by omega) k]
              omega
            · have e : (t + 1 + u) % (n : Int) = t + 1 + u - n := by
                have e2 : t + 1 + u = (t + 1 + u - n) + n := by omega
                rw [e2, Int.add_emod_right, Int.emod_eq_of_lt (by omega) (by omega)]
                omega
              rw [e]
              omega
          exact ⟨_, rfl, w05, .inr ⟨hw4, ho⟩⟩
        · have z1 : w = sClear := by
            by_cases k : w = sClear
            · exact k
            · rw [decide_eq_false (fun (e : V.str w = V.str (Str.ofString "clear")) => k (V.str.inj e))] at z
              exact absurd rfl z
          walk_at "rd"
          exact ⟨_, rfl, w04, .inl ⟨z1, rfl⟩⟩
      · rintro σ' H5 ⟨o, rfl, w05, ho⟩
        walk_at "rd"
        refine ⟨fun σ' H' => ∃ (gs : List Nat) (y7 : Option V), σ' = [some (.ref b), some (.int n), some (.int m), some (.str w), some (.int t), some (.int o), some (.str (txt gs)), y7] ∧ Wd c ns b H H' ∧ gs.length ≤ 12 ∧ ∀ x ∈ gs, Sign x, ?_, ?_⟩
        · walk_at "rd"
          refine ⟨c, b, ns, 2, rfl, w05.b1, by decide, by decide, fun H6 y w6 y0 y1 => ?_⟩
          have w06 := w05.trans w6
          walk_at "rd"
          refine ite2 (fun z => ?_) (fun z => ?_)
          · walk_at "rt"
            refine lc_wd walk_rng w6.b1 (fun i acc => ∃ gs : List Nat, acc = (gs.map fun c => V.str (one c)) ∧ gs.length = i ∧ i ≤ m ∧ ∀ x ∈ gs, Sign x) ⟨[], rfl, rfl, Nat.zero_le _, fun x hx => absurd hx List.not_mem_nil⟩ ?_ (fun _ _ => trivial) ?_ ?_
            · rintro i acc ⟨gs2, rfl, l2, l3, _⟩
              rw [List.length_map]
              omega
            · rintro i x H8 H9 acc Qc R hi w8 ⟨gs2, rfl, l2, l3, hg2⟩ ⟨rfl, rfl⟩ qc _
              have hi2 : i < m := by simpa using hi
              walk_at "rd"
              refine ⟨rfl, ?_⟩
              walk_at "rd"
              refine ⟨c, b, ns, 13, rfl, w8.b1, by decide, by decide, fun H10 d w10 d0 d1 => ?_⟩
              obtain ⟨s, es, hs⟩ := pick d0 d1
              walk_at "rd"
              refine qc _ _ w10 ⟨gs2 ++ [s], by rw [List.map_append]; rfl, by rw [List.length_append, l2]; rfl, by omega, fun x hx => ?_⟩
              rcases List.mem_append.mp hx with k | k
              · exact hg2 x k
              · rw [List.mem_singleton.mp k]
                exact hs
            · rintro H8 D acc w8 nD hD ⟨gs2, rfl, l2, l3, hg2⟩
              have l4 : gs2.length = m := by simpa using l2
              have ef := ones_flat gs2
              refine rd_joinT (ws := gs2.map fun c => [c]) (by rw [List.map_map]; exact hD) (by rw [ef]; omega) ?_
              rw [ef]
              walk_at "rd"
              exact ⟨gs2, _, rfl, w06.trans w8, by omega, hg2⟩
          · walk_at "rd"
            exact ⟨[], _, rfl, w06, Nat.zero_le _, fun x hx => absurd hx List.not_mem_nil⟩
        · rintro σ' H6 ⟨gs, y7, rfl, w06, hg1, hg2⟩
          walk_at "rd"
          refine ⟨len1000 (by simp), fun D nD => ?_⟩
          refine q _ D ⟨w, t, o, gs⟩ (w06.new nD) (w06.free nD) upd_same ⟨t0, by show t < 12; omega, ?_, hg1, hg2⟩
          rcases ho with ⟨h1, h2⟩ | ⟨h1, h2, h3, h4⟩
          · exact .inl ⟨h1, h2⟩
          · exact .inr ⟨h1, h2, by show o < 12; omega, h4⟩
def sp_law_ended (_K : PySem.W.Frag) : Sp := fun vs H Q _ => ∃ (c b : Addr) (ns : List Int) (cs : List Nat), vs = [.ref b, .str (txt cs)] ∧ Bag c ns b H ∧ cs.length ≤ 30000 ∧ (∀ x ∈ cs, x < 128) ∧ ∀ H' cs', Wd c ns b H H' → cs'.length ≤ 40000 → (∀ x ∈ cs', x < 128) → Q (.str (txt cs')) H'
set_option maxHeartbeats 4000000 in
theorem ok_law_ended (T : Top K mg) {f : Addr} {fd : FuncData} (D : Def K mg "_law_ended" s_law_ended ["bag", "text"] f fd) : FnOk P w K mg base CX0 3 f fd ["bag", "text"] (sp_law_ended K) := by
  obtain ⟨f_law_draw, fd_law_draw, D_law_draw⟩ := T.d__law_draw
  have G_law_draw : FnOk P w K mg base CX0 1 f_law_draw fd_law_draw ["bag", "many"] (sp_law_draw K) := ok_law_draw T D_law_draw
  obtain ⟨f_law_written, fd_law_written, D_law_written⟩ := T.d__law_written
  have G_law_written : FnOk P w K mg base CX0 1 f_law_written fd_law_written ["row"] (sp_law_written K) := ok_law_written T D_law_written
  obtain ⟨f_law_row, fd_law_row, D_law_row⟩ := T.d__law_row
  have G_law_row : FnOk P w K mg base CX0 2 f_law_row fd_law_row ["bag", "n", "wide"] (sp_law_row K) := ok_law_row T D_law_row
  refine D.F.ok sc_law_ended (fun vs H Q E h => ?_) (fun cdv A outer s H vs Q E hr h => ?_)
  · obtain ⟨c, b, ns, cs, rfl, _⟩ := h
    rfl
  · obtain ⟨c, b, ns, cs, rfl, B, cl, cc, q⟩ := h
    have app_c : ∀ (x y : List Nat), (∀ c ∈ x, c < 128) → (∀ c ∈ y, c < 128) → ∀ c ∈ x ++ y, c < 128 := fun x y hx hy c h => (List.mem_append.mp h).elim (hx c) (hy c)
    refine ⟨_, (pss_cons (ps_set (i := 2) sc_law_ended.nd rfl (.inl rfl) (pe_call G_law_draw (hr.mono (by decide)) (by rfl) D_law_draw.g D_law_draw.F.kp D_law_draw.b .nil pass0 (pa_cons (pv 0) (pa_cons pe_int pa_nil))))
    (pss_cons (ps_if (pt_cmpR op_eq (pv 2) pe_int (nomark _)) (pss_one (ps_ret (pe_slice sl_str (pv 1) po_none (po_some (pe_un un_neg pe_int))))) pss_nil)
    (pss_cons (ps_if (pt_cmpR op_eq (pv 2) pe_int (nomark _)) (pss_one (ps_ret (pe_op op_addZ (pv 1) pe_str))) pss_nil)
    (pss_cons (ps_if (pt_cmpR op_eq (pv 2) pe_int (nomark _)) (pss_one (ps_ret (pe_op op_addZ (pv 1) (pe_slice sl_str (pe_call G_law_written (hr.mono (by decide)) (by rfl) D_law_written.g D_law_written.F.kp D_law_written.b .nil pass0 (pa_cons (pe_call G_law_row hr (by rfl) D_law_row.g D_law_row.F.kp D_law_row.b .nil pass0 (pa_cons (pv 0) (pa_cons pe_int (pa_cons pe_int pa_nil)))) pa_nil)) po_none (po_some (pe_un un_neg pe_int)))))) pss_nil)
    (pss_one (ps_ret (pv 1))))))), ?_⟩
    walk_at "rt"
    refine ⟨c, b, ns, 6, rfl, B, by decide, by decide, fun H1 way w1 _ _ => ?_⟩
    walk_at "rt"
    refine ite2 (fun z => ?_) (fun z => ?_)
    · walk_at "rt"
      refine rd_slS (by omega) ?_
      rw [cutS_m1]
      exact q _ _ w1 (by rw [List.length_dropLast]; omega) fun x h => cc x (List.dropLast_subset cs h)
    walk_at "rt"
    refine ite2 (fun z => ?_) (fun z => ?_)
    · walk_at "rt"
      refine rd_addZ (b := [10]) (by show cs.length + 1 ≤ 1000000; omega) ?_
      exact q _ _ w1 (by rw [List.length_append]; show cs.length + 1 ≤ 40000; omega) (app_c _ _ cc (by decide))
    walk_at "rt"
    refine ite2 (fun z => ?_) (fun z => ?_)
    · walk_at "rt"
      refine ⟨c, b, ns, 12, 0, rfl, w1.b1, by decide, by decide, by decide, fun H2 D r w2 nD hD ok => ?_⟩
      have wl := writ_len ok
      walk_at "rt"
      refine ⟨D, r, rfl, hD, ok, ?_⟩
      walk_at "rt"
      refine rd_slS (a := writ r ++ [10]) (by rw [List.length_append]; show (writ r).length + 1 ≤ 1000000; omega) ?_
      rw [cutS_m1, List.dropLast_concat]
      refine rd_addZ (by omega) ?_
      exact q _ _ (w1.trans w2) (by rw [List.length_append]; omega) (app_c _ _ cc (writ_small ok))
    walk_at "rt"
    exact q _ _ w1 (by omega) cc
def sp_law_block (_K : PySem.W.Frag) : Sp := fun vs H Q _ => ∃ w : List Nat, vs = [.str (txt w)] ∧ ∀ H', Same H H' → Q (.int (blockOf w)) H'
set_option maxHeartbeats 4000000 in
theorem ok_law_block (T : Top K mg) {f : Addr} {fd : FuncData} (D : Def K mg "_law_block" s_law_block ["word"] f fd) : FnOk P w K mg base CX0 1 f fd ["word"] (sp_law_block K) := by
  refine D.F.ok sc_law_block (fun vs H Q E h => ?_) (fun cdv A outer s H vs Q E hr h => ?_)
  · obtain ⟨w, rfl, _⟩ := h
    rfl
  · obtain ⟨w, rfl, q⟩ := h
    have h12 : -100000 ≤ (12 : Int) ∧ (12 : Int) ≤ 100000 := by decide
    refine ⟨_, (pss_cons (ps_setLc (i := 1) (own := [("k", 2)]) (g := gName 2) (tt := tYes) rfl sc_law_block.nd rfl rfl (sw_true rfl rfl rfl (by decide +kernel)) (pi_range1 (by rfl) T.b_range (pa_cons pe_int pa_nil))
      (blkOk_by (own := [("k", 2)]) (N := ["word", "numbers", "k"]) (sc := defScope s_law_block) (by decide +kernel)) (fun _ _ _ _ _ => (pg_name (i := 2) sc_law_block.nd rfl (.inl rfl))) (fun _ _ _ _ _ => pts_nil)
      (fun _ _ _ _ _ => (pe_callTy call_strQ (by rfl) T.b_str (by decide +kernel) (pa_cons (pv 2) pa_nil))))
    (pss_cons (ps_if (pt_cmpR (r := rIn K false) op_in_seq (pv 0) (pv 1) (by rfl)) (pss_one (ps_ret (pe_bm PySem.F.plainAttrs_list PySem.F.slot_list_index PySem.F.type_list_index mt_index (pv 1) (pa_cons (pv 0) pa_nil)))) pss_nil)
    (pss_one (ps_ret (pe_un un_neg pe_int))))), ?_⟩
    walk_at "rt"
    refine lc_map walk_rng (NUMS.map fun w => V.str (txt w)) ?_ ?_ (fun _ _ => trivial) ?_ ?_
    · simp [NUMS]
    · show (12 : Nat) ≤ 1000
      decide
    · rintro i x H2 H3 Qc R hi S ⟨rfl, rfl⟩ qc
      have hi2 : i < 12 := hi
      walk_at "rt"
      refine ⟨rfl, ?_⟩
      walk_at "rt"
      refine rd_strN (by omega) ?_
      refine qc _ _ (Same.refl _) ?_
      unfold NUMS
      rw [List.getElem?_map, List.getElem?_map, List.getElem?_eq_getElem (by simpa using hi2)]
      simp
    · intro H2 D S nD hD
      walk_at "rt"
      refine rd_inTx hD ?_
      walk_at "rt"
      by_cases k : w ∈ NUMS
      · rw [decide_eq_true k]
        obtain ⟨n, n12, rfl⟩ := of_nums k
        walk_at "rt"
        refine rd_indexNum n12 hD ?_
        have z := q _ S
        rw [block_num n12] at z
        exact z
      · rw [decide_eq_false k]
        walk_at "rt"
        have z := q _ S
        rw [block_neg k] at z
        exact z
def sp_law_good_guard (_K : PySem.W.Frag) : Sp := fun vs H Q _ => ∃ g : List Nat, vs = [.str (txt g)] ∧ g.length ≤ 100000 ∧ Q (.bl (decide ((1 ≤ g.length ∧ g.length ≤ 12) ∧ g.all isSg = true))) H
set_option maxHeartbeats 4000000 in
theorem ok_law_good_guard (T : Top K mg) {f : Addr} {fd : FuncData} (D : Def K mg "_law_good_guard" s_law_good_guard ["guard"] f fd) : FnOk P w K mg base CX0 1 f fd ["guard"] (sp_law_good_guard K) := by
  refine D.F.ok sc_law_good_guard (fun vs H Q E h => ?_) (fun cdv A outer s H vs Q E hr h => ?_)
  · obtain ⟨g, rfl, _⟩ := h
    rfl
  · obtain ⟨g, rfl, gl, q⟩ := h
    have hz : (txt g).length ≤ sizeLine := by rw [txt_len]; exact big_line (by omega)
    refine ⟨_, (pss_cons (ps_for PassesOwn.never rfl (pi_str (pv 0)) (pg_name (i := 1) sc_law_good_guard.nd rfl (.inl rfl)) (pss_one (ps_if (pt_cmpR op_notSgQ (pv 1) pe_str rfl) (pss_one (ps_ret pe_bl)) pss_nil)))
    (pss_one (ps_ret (pe_chain op_le op_le pe_int (pe_callB call_lenZ (by rfl) T.b_len PySem.boot_len (pa_cons (pv 0) pa_nil)) pe_int)))), ?_⟩
    walk_at "rt"
    refine fr_it (walk_str (z := txt g)) (fun i σ H' => ∃ y, σ = [some (.str (txt g)), y] ∧ H' = H ∧ ∀ (j : Nat) (h : j < g.length), j < i → isSg g[j] = true) ⟨none, rfl, rfl, fun j _ h => absurd h (Nat.not_lt_zero _)⟩ (fun _ _ _ _ _ => trivial) ?_ ?_
    · rintro i x σ H1 H2 hi ⟨y, rfl, rfl, hs⟩ ⟨rfl, c, ec, rfl⟩
      have h1 : i < g.length := by simpa [txt] using hi
      have ec2 : g[i] = c := by
        have z : (txt g).cps[i]? = some g[i] := by simp [txt, h1]
        exact Option.some.inj (z.symm.trans ec)
      walk_at "rt"
      refine rd_notSg ?_
      have e : decide (c ∈ (Str.ofString ".*-0123456789").cps.toList) = isSg c := rfl
      rw [e]
      walk_at "rt"
      by_cases k : isSg c = true
      · rw [k]
        walk_at "rt"
        refine ⟨_, rfl, rfl, fun j hj hj2 => ?_⟩
        by_cases z : j = i
        · subst z
          rw [ec2]
          exact k
        · exact hs j hj (by omega)
      · have k2 : isSg c = false := by cases e : isSg c with | true => exact absurd e k | false => rfl
        rw [k2]
        walk_at "rt"
        rw [decide_eq_false (show ¬ ((1 ≤ g.length ∧ g.length ≤ 12) ∧ g.all isSg = true) from fun z => k (by
          have := List.all_eq_true.mp z.2 g[i] (List.getElem_mem h1)
          rw [ec2] at this
          exact this))] at q
        exact q
    · rintro σ H1 ⟨y, rfl, rfl, hs⟩
      have hs2 : g.all isSg = true := by
        rw [List.all_eq_true]
        intro x hx
        obtain ⟨j, hj, rfl⟩ := List.mem_iff_getElem.mp hx
        exact hs j hj (by simpa [txt] using hj)
      walk_at "rt"
      have el : ((txt g).length : Int) = (g.length : Int) := by rw [txt_len]
      rw [el]
      by_cases k1 : (1 : Int) ≤ (g.length : Int)
      · walk_at "rt"
        have e : decide ((g.length : Int) ≤ 12) = decide ((1 ≤ g.length ∧ g.length ≤ 12) ∧ g.all isSg = true) := by
          by_cases k2 : (g.length : Int) ≤ 12
          · rw [decide_eq_true k2, decide_eq_true ⟨⟨by omega, by omega⟩, hs2⟩]
          · rw [decide_eq_false k2, decide_eq_false fun z => k2 (by omega)]
        rw [e]
        exact q
      · walk_at "rt"
        rw [decide_eq_false (show ¬ ((1 ≤ g.length ∧ g.length ≤ 12) ∧ g.all isSg = true) from fun z => k1 (by omega))] at q
        exact q
def sp_law_read_row (_K : PySem.W.Frag) : Sp := fun vs H Q _ => ∃ row : List Nat, vs = [.str (txt row)] ∧ row.length ≤ 100000 ∧
  (readL row = none → ∀ H', Same H H' → Q .non H') ∧ (∀ r, readL row = some r → ∀ H' D, Same H H' → H' D = some (.tup r.vals) → Q (.ref D) H')
set_option maxHeartbeats 4000000 in
theorem ok_law_read_row (T : Top K mg) {f : Addr} {fd : FuncData} (D : Def K mg "_law_read_row" s_law_read_row ["text"] f fd) : FnOk P w K mg base CX0 2 f fd ["text"] (sp_law_read_row K) := by
  obtain ⟨f_law_block, fd_law_block, D_law_block⟩ := T.d__law_block
  have G_law_block : FnOk P w K mg base CX0 1 f_law_block fd_law_block ["word"] (sp_law_block K) := ok_law_block T D_law_block
  obtain ⟨f_law_good_guard, fd_law_good_guard, D_law_good_guard⟩ := T.d__law_good_guard
  have G_law_good_guard : FnOk P w K mg base CX0 1 f_law_good_guard fd_law_good_guard ["guard"] (sp_law_good_guard K) := ok_law_good_guard T D_law_good_guard
  refine D.F.ok sc_law_read_row (fun vs H Q E h => ?_) (fun cdv A outer s H vs Q E hr h => ?_)
  · obtain ⟨row, rfl, _⟩ := h
    rfl
  · obtain ⟨row, rfl, hl, qn, qs⟩ := h
    refine ⟨_, (pss_cons (ps_set (i := 1) sc_law_read_row.nd rfl (.inl rfl) (pe_splitQ (pv 0) pe_str))
    (pss_cons (ps_set (i := 2) sc_law_read_row.nd rfl (.inl rfl) pe_str)
    (C8.pss_cut (ps_if (PW.pt (pw_and (pt_cmpR op_ge (pe_callB (r := rLenQ K) call_lenQ (by rfl) T.b_len PySem.boot_len (pa_cons (pv 1) pa_nil)) pe_int (nomark _)) (pw_and1 (pt_cmpR op_eq (pe_ix (r := rIxL K) ix_list (pv 1) (pe_un un_neg pe_int) (fun _ _ => rfl)) pe_str (nomark _))))) (pss_cons (ps_if (pt_not (pt_val (pe_call G_law_good_guard hr (by rfl) D_law_good_guard.g D_law_good_guard.F.kp D_law_good_guard.b .nil pass0 (pa_cons (pe_ix (r := rIxL K) ix_list (pv 1) (pe_un un_neg pe_int) (fun _ _ => rfl)) pa_nil)))) (pss_one (ps_ret pe_non)) pss_nil)
    (pss_cons (ps_set (i := 2) sc_law_read_row.nd rfl (.inl rfl) (pe_ix (r := rIxL K) ix_list (pv 1) (pe_un un_neg pe_int) (fun _ _ => rfl)))
    (pss_one (ps_set (i := 1) sc_law_read_row.nd rfl (.inl rfl) (pe_slice sl_list (pv 1) po_none (po_some (pe_un un_neg pe_int))))))) pss_nil)
    (pss_cons (ps_if (PW.pt (pw_and (pt_cmpR op_eq (pe_callB (r := rLenQ K) call_lenQ (by rfl) T.b_len PySem.boot_len (pa_cons (pv 1) pa_nil)) pe_int (nomark _)) (pw_and (pt_cmpR op_eq (pe_ix (r := rIxL K) ix_list (pv 1) pe_int (fun _ _ => rfl)) pe_str (nomark _)) (pw_and1 (pt_cmpR op_ge (pe_call G_law_block hr (by rfl) D_law_block.g D_law_block.F.kp D_law_block.b .nil pass0 (pa_cons (pe_ix (r := rIxL K) ix_list (pv 1) pe_int (fun _ _ => rfl)) pa_nil)) pe_int (nomark _)))))) (pss_one (ps_ret (pe_tup (pa_cons pe_str (pa_cons (pe_call G_law_block hr (by rfl) D_law_block.g D_law_block.F.kp D_law_block.b .nil pass0 (pa_cons (pe_ix (r := rIxL K) ix_list (pv 1) pe_int (fun _ _ => rfl)) pa_nil)) (pa_cons (pe_un un_neg pe_int) (pa_cons (pv 2) pa_nil))))))) pss_nil)
    (pss_cons (ps_if (PW.pt (pw_or (pt_cmpR op_ne (pe_callB (r := rLenQ K) call_lenQ (by rfl) T.b_len PySem.boot_len (pa_cons (pv 1) pa_nil)) pe_int (nomark _)) (pw_or (pt_cmpR (r := rIn K true) op_notIn_seq (pe_ix (r := rIxL K) ix_list (pv 1) pe_int (fun _ _ => rfl)) (pe_lst (pa_cons pe_str (pa_cons pe_str pa_nil))) (by rfl)) (pw_or1 (pt_cmpR op_ne (pe_ix (r := rIxL K) ix_list (pv 1) pe_int (fun _ _ => rfl)) pe_str (nomark _)))))) (pss_one (ps_ret pe_non)) pss_nil)
    (pss_cons (ps_set (i := 3) sc_law_read_row.nd rfl (.inl rfl) (pe_call G_law_block hr (by rfl) D_law_block.g D_law_block.F.kp D_law_block.b .nil pass0 (pa_cons (pe_ix (r := rIxL K) ix_list (pv 1) pe_int (fun _ _ => rfl)) pa_nil)))
    (pss_cons (ps_set (i := 4) sc_law_read_row.nd rfl (.inl rfl) (pe_call G_law_block hr (by rfl) D_law_block.g D_law_block.F.kp D_law_block.b .nil pass0 (pa_cons (pe_ix (r := rIxL K) ix_list (pv 1) pe_int (fun _ _ => rfl)) pa_nil)))
    (pss_cons (ps_if (PW.pt (pw_or (pt_cmpR op_lt (pv 3) pe_int (nomark _)) (pw_or (pt_cmpR op_lt (pv 4) pe_int (nomark _)) (pw_or1 (pt_cmpR op_eq (pv 3) (pv 4) (nomark _)))))) (pss_one (ps_ret pe_non)) pss_nil)
    (pss_one (ps_ret (pe_tup (pa_cons (pe_ix (r := rIxL K) ix_list (pv 1) pe_int (fun _ _ => rfl)) (pa_cons (pv 3) (pa_cons (pv 4) (pa_cons (pv 2) pa_nil))))))))))))))), ?_⟩
    walk_at "rt"
    refine rd_split (c := 32) (by decide) (by omega) fun l nl => ?_
    have wne : TL.spl [32] 0 [] row ≠ [] := spl_ne [32] row
    have wl := spl_len [32] row
    have few := readL_few (row := row)
    have rl : readL row = (if isIf (TL.spl [32] 0 [] row) = true then (if (1 ≤ ((TL.spl [32] 0 [] row).getLastD []).length ∧ ((TL.spl [32] 0 [] row).getLastD []).length ≤ 12) ∧ ((TL.spl [32] 0 [] row).getLastD []).all isSg = true then readW ((TL.spl [32] 0 [] row).take ((TL.spl [32] 0 [] row).length - 2)) ((TL.spl [32] 0 [] row).getLastD []) else none) else readW (TL.spl [32] 0 [] row) []) := rfl
    generalize TL.spl [32] 0 [] row = ws at *
    obtain ⟨H1, eH1, S1, hL⟩ := new_gen (.lst (ws.map fun w => V.str (txt w))) nl
    rw [← eH1]
    have ln : V.int (((ws.map fun w => V.str (txt w)).length : Nat) : Int) = V.int (ws.length : Int) := by rw [List.length_map]
    walk_at "rt"
    refine ⟨fun σ' H' => ∃ (l' : Addr) (ws' : List (List Nat)) (g : List Nat), σ' = [some (.str (txt row)), some (.ref l'), some (.str (txt g)), none, none] ∧ Same H H' ∧ H' l' = some (.lst (ws'.map fun w => V.str (txt w))) ∧ readL row = readW ws' g, ?_, ?_⟩
    · walk_at "rt"
      rw [List.length_map]
      by_cases k4 : (4 : Int) ≤ (ws.length : Int)
      · rw [decide_eq_true k4]
        obtain ⟨init, u, v, rfl⟩ : ∃ init u v, ws = init ++ [u, v] := by
          have h1 := (List.take_append_drop (ws.length - 2) ws).symm
          have h2 : (ws.drop (ws.length - 2)).length = 2 := by rw [List.length_drop]; omega
          match e : ws.drop (ws.length - 2), h2 with
          | [u, v], _ => exact ⟨ws.take (ws.length - 2), u, v, by rw [e] at h1; exact h1⟩
        have eu : atI ((init ++ [u, v]).map fun w => V.str (txt w)) (-2) = some (.str (txt u)) := by
          rw [List.map_append]
          exact atI_m2 _ _ _
        have ev : atI ((init ++ [u, v]).map fun w => V.str (txt w)) (-1) = some (.str (txt v)) := by
          have e : (init ++ [u, v]).map (fun w => V.str (txt w)) = ((init ++ [u]).map fun w => V.str (txt w)) ++ [V.str (txt v)] := by simp
          rw [e]
          exact atI_last _ _
        have w2 : 2 ≤ (init ++ [u, v]).length := by omega
        have hlast : (init ++ [u, v]).getLastD [] = v := by simp
        have hif : isIf (init ++ [u, v]) = decide (u = wIf) := by
          unfold isIf
          have e : (init ++ [u, v]).getD ((init ++ [u, v]).length - 2) [] = u := by
            have el : (init ++ [u, v]).length - 2 = init.length := by simp
            rw [el]
            simp
          rw [e]
          by_cases z : u = wIf
          · rw [decide_eq_true z, decide_eq_true ⟨w2, z⟩]
          · rw [decide_eq_false z, decide_eq_false fun y => z y.2]
        rw [hif, hlast] at rl
        walk_at "rt"
        have eif : decide (V.str (txt u) = V.str (Str.ofString "if")) = decide (u = wIf) := by
          rw [Bool.eq_iff_iff, decide_eq_true_iff, decide_eq_true_iff]
          exact ⟨fun h => txt_inj (b := wIf) (V.str.inj h), fun h => by rw [h]; rfl⟩
        rw [eif]
        by_cases ku : u = wIf
        · rw [decide_eq_true ku] at rl ⊢
          rw [if_pos rfl] at rl
          walk_at "rt"
          have vl := wl v (by simp)
          refine ⟨v, rfl, by omega, ?_⟩
          walk_at "rt"
          by_cases kg : (1 ≤ v.length ∧ v.length ≤ 12) ∧ v.all isSg = true
          · rw [if_pos kg] at rl
            rw [decide_eq_true kg]
            walk_at "rt"
            refine rd_slL (SqL.of hL) fun l5 nl5 => ?_
            rw [cut_to_m2 w2]
            obtain ⟨H5, eH5, S5, hL5⟩ := new_gen (.lst (((init ++ [u, v]).take ((init ++ [u, v]).length - 2)).map fun w => V.str (txt w))) nl5
            rw [← eH5]
            walk_at "rt"
            exact ⟨l5, _, v, rfl, S1.trans S5, hL5, rl⟩
          · rw [if_neg kg] at rl
            rw [decide_eq_false kg]
            walk_at "rt"
            exact qn rl _ S1
        · rw [decide_eq_false ku] at rl ⊢
          rw [if_neg Bool.false_ne_true] at rl
          walk_at "rt"
          exact ⟨l, _, [], rfl, S1, hL, rl⟩
      · rw [decide_eq_false k4]
        walk_at "rt"
        exact ⟨l, ws, [], rfl, S1, hL, few (by omega)⟩
    · rintro σ' H2 ⟨l', ws', g, rfl, S2, hL2, rl2⟩
      rw [rl2] at qn qs
      clear rl2 rl few wl wne ln hL eH1 S1
      have dcl : ∀ a : List Nat, decide (V.str (txt a) = V.str (Str.ofString "clear")) = decide (a = wClear) := fun a => by
        rw [Bool.eq_iff_iff, decide_eq_true_iff, decide_eq_true_iff]
        exact ⟨fun h => txt_inj (b := wClear) (V.str.inj h), fun h => by rw [h]; rfl⟩
      have dar : ∀ a : List Nat, decide (V.str (txt a) = V.str (Str.ofString "<-")) = decide (a = wArr) := fun a => by
        rw [Bool.eq_iff_iff, decide_eq_true_iff, decide_eq_true_iff]
        exact ⟨fun h => txt_inj (b := wArr) (V.str.inj h), fun h => by rw [h]; rfl⟩
      walk_at "rt"
      match ws', hL2, qn, qs with
      | [a, t], hL2, qn, qs =>
        have hL2 : H2 l' = some (.lst [.str (txt a), .str (txt t)]) := hL2
        have d2 : decide (V.int ((([a, t].map fun w => V.str (txt w)).length : Nat) : Int) = V.int 2) = true := rfl
        have d4 : decide (V.int ((([a, t].map fun w => V.str (txt w)).length : Nat) : Int) = V.int 4) = false := rfl
        rw [d2]
        walk_at "rt"
        rw [dcl]
        by_cases k : a = wClear
        · rw [decide_eq_true k]
          walk_at "rt"
          refine ⟨t, rfl, fun H3 S3 => ?_⟩
          walk_at "rt"
          by_cases kt : t ∈ NUMS
          · rw [decide_eq_true (block_nonneg.mpr kt)]
            have hL3 := S3 _ _ hL2
            walk_at "rt"
            refine ⟨t, rfl, fun H4 S4 => ?_⟩
            walk_at "rt"
            refine ⟨len1000 (by simp), fun D nD => ?_⟩
            obtain ⟨n, n12, rfl⟩ := of_nums kt
            rw [block_num n12]
            refine qs ⟨sClear, (n : Int), -1, g⟩ ?_ _ D (same_new ((S2.trans S3).trans S4) nD) upd_same
            show (if a = wClear ∧ TL.numL n ∈ NUMS then some (⟨sClear, ((NumText.digitsVal (TL.numL n) : Nat) : Int), -1, g⟩ : Ln) else none) = _
            rw [if_pos ⟨k, kt⟩, TL.numL_val]
          · rw [decide_eq_false fun z => kt (block_nonneg.mp z)]
            have hL3 := S3 _ _ hL2
            walk_at "rt"
            exact qn (if_neg fun z => kt z.2) _ (S2.trans S3)
        · rw [decide_eq_false k]
          walk_at "rt"
          exact qn (if_neg fun z => k z.1) _ S2
      | [a, t, x, s], hL2, qn, qs =>
        have hL2 : H2 l' = some (.lst [.str (txt a), .str (txt t), .str (txt x), .str (txt s)]) := hL2
        have d2 : decide (V.int ((([a, t, x, s].map fun w => V.str (txt w)).length : Nat) : Int) = V.int 2) = false := rfl
        have fail : ¬ (x = wArr ∧ ((a = wCopy ∨ a = wMove) ∧ t ≠ s) ∧ (t ∈ NUMS ∧ s ∈ NUMS)) → ∀ H', Same H H' → Q V.non H' := fun z => qn (if_neg z)
        have d4 : decide (V.int ((([V.str (txt a), V.str (txt t), V.str (txt x), V.str (txt s)] : List V).length : Nat) : Int) = V.int 4) = true := rfl
        rw [d2]
        walk_at "rt"
        rw [d4]
        walk_at "rt"
        refine ⟨len1000 (by simp), fun c nc => ?_⟩
        obtain ⟨H3, eH3, S3, hC⟩ := new_gen (.lst ([wCopy, wMove].map fun w => V.str (txt w))) nc
        show rIn K true (V.str (txt a)) (V.ref c) (upd H2 c (.lst ([wCopy, wMove].map fun w => V.str (txt w)))) _
        rw [← eH3]
        refine rd_notInTx hC ?_
        have S03 := S2.trans S3
        have hL3 := S3 _ _ hL2
        have ein : decide (a ∈ [wCopy, wMove]) = decide (a = wCopy ∨ a = wMove) := by
          rw [Bool.eq_iff_iff]
          simp
        rw [ein]
        walk_at "rt"
        by_cases ka : a = wCopy ∨ a = wMove
        · rw [decide_eq_true ka]
          walk_at "rt"
          rw [dar]
          by_cases kx : x = wArr
          · rw [decide_eq_true kx]
            walk_at "rt"
            refine ⟨t, rfl, fun H4 S4 => ?_⟩
            have hL4 := S4 _ _ hL3
            walk_at "rt"
            refine ⟨s, rfl, fun H5 S5 => ?_⟩
            have hL5 := S5 _ _ hL4
            have S05 := (S03.trans S4).trans S5
            walk_at "rt"
            by_cases k1 : t ∈ NUMS
            · obtain ⟨n, n12, rfl⟩ := of_nums k1
              rw [block_num n12]
              rw [decide_eq_false (show ¬ ((n : Int) < 0) by omega)]
              walk_at "rt"
              by_cases k2 : s ∈ NUMS
              · obtain ⟨m, m12, rfl⟩ := of_nums k2
                rw [block_num m12]
                rw [decide_eq_false (show ¬ ((m : Int) < 0) by omega)]
                walk_at "rt"
                by_cases ke : n = m
                · rw [decide_eq_true (show V.int (n : Int) = V.int (m : Int) from by rw [ke])]
                  walk_at "rt"
                  exact fail (fun z => z.2.1.2 (by rw [ke])) _ S05
                · rw [decide_eq_false (show ¬ V.int (n : Int) = V.int (m : Int) from fun z => ke (by have := V.int.inj z; omega))]
                  walk_at "rt"
                  refine ⟨len1000 (by simp), fun D nD => ?_⟩
                  refine qs ⟨txt a, (n : Int), (m : Int), g⟩ ?_ _ D (same_new S05 nD) upd_same
                  show (if x = wArr ∧ ((a = wCopy ∨ a = wMove) ∧ TL.numL n ≠ TL.numL m) ∧ (TL.numL n ∈ NUMS ∧ TL.numL m ∈ NUMS) then some (⟨txt a, ((NumText.digitsVal (TL.numL n) : Nat) : Int), ((NumText.digitsVal (TL.numL m) : Nat) : Int), g⟩ : Ln) else none) = _
                  rw [if_pos ⟨kx, ⟨ka, fun e => ke (TL.numL_inj e)⟩, k1, k2⟩, TL.numL_val, TL.numL_val]
              · rw [block_neg k2]
                rw [decide_eq_true (show (-1 : Int) < 0 by decide)]
                walk_at "rt"
                exact fail (fun z => k2 z.2.2.2) _ S05
            · rw [block_neg k1]
              rw [decide_eq_true (show (-1 : Int) < 0 by decide)]
              walk_at "rt"
              exact fail (fun z => k1 z.2.2.1) _ S05
          · rw [decide_eq_false kx]
            walk_at "rt"
            exact fail (fun z => kx z.1) _ S03
        · rw [decide_eq_false ka]
          walk_at "rt"
          exact fail (fun z => ka z.2.1.1) _ S03
      | [], hL2, qn, qs =>
        have d2 : decide (V.int (((([] : List (List Nat)).map fun w => V.str (txt w)).length : Nat) : Int) = V.int 2) = false := rfl
        have d4 : decide (V.int (((([] : List (List Nat)).map fun w => V.str (txt w)).length : Nat) : Int) = V.int 4) = false := rfl
        rw [d2]
        walk_at "rt"
        exact qn rfl _ S2
      | [a], hL2, qn, qs =>
        have d2 : decide (V.int ((([a].map fun w => V.str (txt w)).length : Nat) : Int) = V.int 2) = false := rfl
        rw [d2]
        walk_at "rt"
        exact qn rfl _ S2
      | [a, b, c], hL2, qn, qs =>
        have d2 : decide (V.int ((([a, b, c].map fun w => V.str (txt w)).length : Nat) : Int) = V.int 2) = false := rfl
        rw [d2]
        walk_at "rt"
        exact qn rfl _ S2
      | a :: b :: c :: d :: e :: r, hL2, qn, qs =>
        have d2 : decide (V.int ((((a :: b :: c :: d :: e :: r).map fun w => V.str (txt w)).length : Nat) : Int) = V.int 2) = false := decide_eq_false fun z => by have := V.int.inj z; simp at this; omega
        have d4 : decide (V.int ((((a :: b :: c :: d :: e :: r).map fun w => V.str (txt w)).length : Nat) : Int) = V.int 4) = false := decide_eq_false fun z => by have := V.int.inj z; simp at this; omega
        rw [d2]
        walk_at "rt"
        rw [d4]
        walk_at "rt"
        exact qn rfl _ S2
def sp_law_read (_K : PySem.W.Frag) : Sp := fun vs H Q _ => ∃ cs : List Nat, vs = [.str (txt cs)] ∧ cs.length ≤ 90000 ∧
  ∀ (k : Nat) rs H' D R qs, Read (TL.spl [10] 0 [] cs) k rs → Same H H' → H' D = some (.lst [.int (k : Int), .ref R]) → H' R = some (.lst (qs.map V.ref)) → TupsAt H' qs (rows rs) → Q (.ref D) H'
set_option maxHeartbeats 4000000 in
theorem ok_law_read (T : Top K mg) {f : Addr} {fd : FuncData} (D : Def K mg "_law_read" s_law_read ["text"] f fd) : FnOk P w K mg base CX0 3 f fd ["text"] (sp_law_read K) := by
  obtain ⟨f_law_read_row, fd_law_read_row, D_law_read_row⟩ := T.d__law_read_row
  have G_law_read_row : FnOk P w K mg base CX0 2 f_law_read_row fd_law_read_row ["text"] (sp_law_read_row K) := ok_law_read_row T D_law_read_row
  refine D.F.ok sc_law_read (fun vs H Q E h => ?_) (fun cdv A outer s H vs Q E hr h => ?_)
  · obtain ⟨cs, rfl, _⟩ := h
    rfl
  · obtain ⟨cs, rfl, cl, q⟩ := h
    refine ⟨_, (pss_cons (ps_set (i := 1) sc_law_read.nd rfl (.inl rfl) (pe_lst pa_nil))
    (pss_cons (ps_set (i := 2) sc_law_read.nd rfl (.inl rfl) (pe_splitQ (pv 0) pe_str))
    (pss_cons (ps_for PassesOwn.never rfl (pi_range1 (by rfl) T.b_range (pa_cons (pe_op op_sub (pe_callB (r := rLenQ K) call_lenQ (by rfl) T.b_len PySem.boot_len (pa_cons (pv 2) pa_nil)) pe_int) pa_nil)) (pg_name (i := 3) sc_law_read.nd rfl (.inl rfl)) (pss_cons (ps_set (i := 4) sc_law_read.nd rfl (.inl rfl) (pe_call G_law_read_row hr (by rfl) D_law_read_row.g D_law_read_row.F.kp D_law_read_row.b .nil pass0 (pa_cons (pe_ix (r := rIxL K) ix_list (pv 2) (pv 3) (fun _ _ => rfl)) pa_nil)))
    (pss_cons (ps_if (PW.pt (pw_or (pt_cmpR op_eq (pv 3) pe_int (nomark _)) (pw_or1 (pt_cmpR op_isNQ (pv 4) pe_non (nomark _))))) (pss_one (ps_ret (pe_lst (pa_cons (pe_op op_add (pv 3) pe_int) (pa_cons (pv 1) pa_nil))))) pss_nil)
    (pss_one (ps_expr (pe_bm PySem.F.plainAttrs_list PySem.F.slot_list_append PySem.F.type_list_append mt_append (pv 1) (pa_cons (pv 4) pa_nil)))))))
    (pss_cons (ps_if (pt_cmpR op_ne (pe_ix (r := rIxL K) ix_list (pv 2) (pe_un un_neg pe_int) (fun _ _ => rfl)) pe_str (nomark _)) (pss_one (ps_ret (pe_lst (pa_cons (pe_callB (r := rLenQ K) call_lenQ (by rfl) T.b_len PySem.boot_len (pa_cons (pv 2) pa_nil)) (pa_cons (pv 1) pa_nil))))) pss_nil)
    (pss_one (ps_ret (pe_lst (pa_cons pe_int (pa_cons (pv 1) pa_nil))))))))), ?_⟩
    walk_at "rt"
    refine ⟨by decide, fun f nf => ?_⟩
    obtain ⟨H2, eH2, S2, hf⟩ := new_gen (.lst []) nf
    rw [← eH2]
    walk_at "rt"
    refine rd_split (c := 10) (by decide) (by omega) fun l nl => ?_
    have wne : TL.spl [10] 0 [] cs ≠ [] := spl_ne [10] cs
    have wl := spl_len [10] cs
    have wf := (spl_flat 10 cs []).2
    generalize TL.spl [10] 0 [] cs = ws at *
    have nfl : f ≠ l := ne_of_none hf nl
    obtain ⟨H3, eH3, S3, hL⟩ := new_gen (.lst (ws.map fun w => V.str (txt w))) nl
    rw [← eH3]
    have hf3 := S3 _ _ hf
    have wp : 0 < ws.length := List.length_pos_iff.mpr wne
    have dl : ws.dropLast.length = ws.length - 1 := List.length_dropLast
    have hrg : -100000 ≤ (((ws.map fun w => V.str (txt w)).length : Nat) : Int) - 1 ∧ (((ws.map fun w => V.str (txt w)).length : Nat) : Int) - 1 ≤ 100000 := by rw [List.length_map]; omega
    walk_at "rt"
    refine fr_rng0 (fun i σ H' => ∃ (y3 y4 : Option V) (qs : List Addr) (rs : List Ln), σ = [some (.str (txt cs)), some (.ref f), some (.ref l), y3, y4] ∧ Same H H' ∧ H' l = some (.lst (ws.map fun w => V.str (txt w))) ∧ H' f = some (.lst (qs.map V.ref)) ∧ TupsAt H' qs (rows rs) ∧ Front ws.dropLast rs ∧ rs.length = i)
      ⟨none, none, [], [], rfl, S2.trans S3, hL, hf3, TupsAt.nil, Front.nil, rfl⟩ ?_ ?_
    · rintro i σ H4 hi ⟨y3, y4, qs, rs, rfl, S4, h4, hf4, t4, fr, rfl⟩
      have hi2 : rs.length < ws.dropLast.length := by rw [List.length_map] at hi; omega
      have hi3 : rs.length < ws.length := by omega
      have eg : ws.dropLast[rs.length] = ws[rs.length] := List.getElem_dropLast ..
      have ea : atI (ws.map fun w => V.str (txt w)) (rs.length : Int) = some (.str (txt ws[rs.length])) := by
        rw [atI_get (by rw [List.length_map]; exact hi3), List.getElem_map]
      have rl := wl _ (List.getElem_mem hi3)
      have er : ∀ r, readL ws[rs.length] = some r → rs.length ≠ 60 → Front ws.dropLast (rs ++ [r]) := fun r e n => fr.more hi2 (by rw [eg]; exact e) n
      have ew : readL ws[rs.length] = none ∨ rs.length = 60 → Read ws (rs.length + 1) rs := fun e => Read.wrong fr hi2 (by rw [eg]; exact e)
      have m60 := fr.m60
      generalize ws[rs.length] = row at *
      -- what is told of a wrong line
      have tell : ∀ (H5 : Hp) (σ5 : L2.St), Same H4 H5 → (readL row = none ∨ rs.length = 60) → ∀ D, H5 D = none → Q (.ref D) (upd H5 D (.lst [.int ((rs.length : Int) + 1), .ref f])) := fun H5 σ5 S5 e D nD => by
        obtain ⟨H6, eH6, S6, hD⟩ := new_gen (.lst [.int ((rs.length : Int) + 1), .ref f]) nD
        rw [← eH6]
        exact q (rs.length + 1) rs H6 D f qs (ew e) ((S4.trans S5).trans S6) (by rw [hD]; rfl) (S6 _ _ (S5 _ _ hf4)) ((t4.same S5).same S6)
      walk_at "rt"
      refine ⟨row, rfl, by omega, fun e H5 S5 => ?_, fun r e H5 D S5 hD => ?_⟩
      · walk_at "rt"
        by_cases k : rs.length = 60
        · rw [decide_eq_true (show V.int (rs.length : Int) = V.int 60 from by rw [k]; rfl)]
          walk_at "rt"
          exact ⟨len1000 (by simp), tell H5 [] S5 (.inl e)⟩
        · rw [decide_eq_false (show ¬ V.int (rs.length : Int) = V.int 60 from fun z => by have := V.int.inj z; omega)]
          walk_at "rt"
          rw [decide_eq_true (show V.non = V.non from rfl)]
          walk_at "rt"
          exact ⟨len1000 (by simp), tell H5 [] S5 (.inl e)⟩
      · walk_at "rt"
        by_cases k : rs.length = 60
        · rw [decide_eq_true (show V.int (rs.length : Int) = V.int 60 from by rw [k]; rfl)]
          walk_at "rt"
          exact ⟨len1000 (by simp), tell H5 [] S5 (.inr k)⟩
        · rw [decide_eq_false (show ¬ V.int (rs.length : Int) = V.int 60 from fun z => by have := V.int.inj z; omega)]
          walk_at "rt"
          rw [decide_eq_false (show ¬ V.ref D = V.non from fun z => by cases z)]
          have hf5 := S5 _ _ hf4
          have hl5 := S5 _ _ h4
          have ql : qs.length = rs.length := by rw [t4.1, rows_len]
          have hlen : (qs.map V.ref).length < 1000 := by rw [List.length_map]; omega
          walk_at "rt"
          refine ⟨_, _, qs ++ [D], rs ++ [r], rfl, same_mut (S4.trans S5) nf, by rw [upd_ne nfl.symm]; exact hl5, by rw [upd_same, List.map_append]; rfl, ?_, er r e k, by rw [List.length_append]; rfl⟩
          rw [rows_app]
          exact ((t4.same S5).app hD).mut (o := .lst (qs.map V.ref ++ [.ref D])) hf5
    · rintro σ H4 ⟨y3, y4, qs, rs, rfl, S4, h4, hf4, t4, fr, el⟩
      rw [List.length_map] at el
      have el : rs.length = ws.dropLast.length := by omega
      obtain ⟨init, z, rfl⟩ : ∃ init z, ws = init ++ [z] := ⟨ws.dropLast, ws.getLast wne, (List.dropLast_concat_getLast wne).symm⟩
      have ea : atI ((init ++ [z]).map fun w => V.str (txt w)) (-1) = some (.str (txt z)) := by
        rw [List.map_append]
        exact atI_last _ _
      have hlast : (init ++ [z]).getLastD [] = z := by simp
      walk_at "rt"
      by_cases k : z = []
      · rw [decide_eq_true (show V.str (txt z) = V.str (Str.ofString "") from by rw [k]; rfl)]
        walk_at "rt"
        refine ⟨len1000 (by simp), fun D nD => ?_⟩
        obtain ⟨H6, eH6, S6, hD⟩ := new_gen (.lst [.int 0, .ref f]) nD
        rw [← eH6]
        exact q 0 rs H6 D f qs ⟨fr, .inl ⟨rfl, el, by rw [hlast]; exact k⟩⟩ (S4.trans S6) hD (S6 _ _ hf4) (t4.same S6)
      · rw [decide_eq_false (show ¬ V.str (txt z) = V.str (Str.ofString "") from fun e => k (txt_inj (b := []) (V.str.inj e)))]
        walk_at "rt"
        refine ⟨len1000 (by simp), fun D nD => ?_⟩
        obtain ⟨H6, eH6, S6, hD⟩ := new_gen (.lst [.int (((init ++ [z]).map fun w => V.str (txt w)).length : Int), .ref f]) nD
        rw [← eH6]
        exact q (init ++ [z]).length rs H6 D f qs ⟨fr, .inr (.inl ⟨rfl, by simp, el, by rw [hlast]; exact k⟩)⟩ (S4.trans S6) (by rw [hD, List.length_map]) (S6 _ _ hf4) (t4.same S6)
theorem in_words {a : List Nat} : inV (.str (txt a)) [V.str (Str.ofString "copy"), .str (Str.ofString "move")] = decide (a = wCopy ∨ a = wMove) := by
  have e := in_txts (t := a) [wCopy, wMove]
  rw [show ([wCopy, wMove].map fun w => V.str (txt w)) = [V.str (Str.ofString "copy"), .str (Str.ofString "move")] from rfl] at e
  rw [e, Bool.eq_iff_iff]
  simp
theorem dec_txt {a b : List Nat} : decide (V.str (txt a) = V.str (txt b)) = decide (a = b) := by
  rw [Bool.eq_iff_iff, decide_eq_true_iff, decide_eq_true_iff]
  exact ⟨fun h => txt_inj (V.str.inj h), fun h => by rw [h]⟩
def sp_read_words (_K : PySem.W.Frag) : Sp := fun vs H Q _ => ∃ (l : Addr) (ws : List (List Nat)) (g : List Nat), vs = [.ref l, .str (txt g)] ∧ H l = some (.lst (ws.map fun w => V.str (txt w))) ∧
  (readW ws g = none → ∀ H', Same H H' → Q .non H') ∧ (∀ r, readW ws g = some r → ∀ H' D, Same H H' → H' D = some (.tup r.vals) → Q (.ref D) H')
set_option maxHeartbeats 4000000 in
theorem ok_read_words (T : Top K mg) {f : Addr} {fd : FuncData} (D : Def K mg "_read_words" s_read_words ["words", "guard"] f fd) : FnOk P w K mg base CX0 1 f fd ["words", "guard"] (sp_read_words K) := by
  obtain ⟨a__NUMBERS, k__NUMBERS, h__NUMBERS⟩ := T.k__NUMBERS
  refine D.F.ok sc_read_words (fun vs H Q E h => ?_) (fun cdv A outer s H vs Q E hr h => ?_)
  · obtain ⟨l, ws, g, rfl, _⟩ := h
    rfl
  · obtain ⟨l, ws, g, rfl, hL, qn, qs⟩ := h
    refine ⟨_, (pss_cons (ps_match (pv 0) (pcs_grd sc_read_words.nd (pp_seq (n := 2) rfl (pps_cons pp_str (pps_cons (pp_cap (i := 2) rfl (.inl rfl)) pps_nil))) (pt_cmpR (r := rIn K false) op_in_seq (pv 2) (Rv.pe_k (by rfl) k__NUMBERS) (by rfl)) (pss_one (ps_ret (pe_tup (pa_cons pe_str (pa_cons (pe_callTy call_intZ (by rfl) T.b_int (by decide +kernel) (pa_cons (pv 2) pa_nil)) (pa_cons (Rv.pe_k (by rfl) T.k_EMPTY) (pa_cons (pv 1) pa_nil))))))) (pcs_grd sc_read_words.nd (pp_seq (n := 4) rfl (pps_cons (pp_cap (i := 3) rfl (.inl rfl)) (pps_cons (pp_cap (i := 2) rfl (.inl rfl)) (pps_cons pp_str (pps_cons (pp_cap (i := 4) rfl (.inl rfl)) pps_nil))))) (PW.pt (pw_and (pt_cmpR (r := rIn K false) op_in_seq (pv 3) (pe_tup (pa_cons pe_str (pa_cons pe_str pa_nil))) (by rfl)) (pw_and1 (pt_cmpR op_ne (pv 2) (pv 4) (nomark _))))) (pss_one (ps_if (PW.pt (pw_and (pt_cmpR (r := rIn K false) op_in_seq (pv 2) (Rv.pe_k (by rfl) k__NUMBERS) (by rfl)) (pw_and1 (pt_cmpR (r := rIn K false) op_in_seq (pv 4) (Rv.pe_k (by rfl) k__NUMBERS) (by rfl))))) (pss_one (ps_ret (pe_tup (pa_cons (pv 3) (pa_cons (pe_callTy call_intZ (by rfl) T.b_int (by decide +kernel) (pa_cons (pv 2) pa_nil)) (pa_cons (pe_callTy call_intZ (by rfl) T.b_int (by decide +kernel) (pa_cons (pv 4) pa_nil)) (pa_cons (pv 1) pa_nil))))))) pss_nil)) pcs_nil)))
    (pss_one (ps_ret pe_non))), ?_⟩
    walk_at "rt"
    match ws, hL, qn, qs with
    | [a, t], hL, qn, qs =>
      have hL : H l = some (.lst [.str (txt a), .str (txt t)]) := hL
      by_cases k : a = wClear
      · refine rd_hit (bs := [(2, .str (txt t))]) (hit_seq hL rfl (by rw [k]; exact hs_str (hs_cap hs_nil))) ?_
        show tTest _ (setBs [(2, V.str (txt t))] _) H _
        unfold setBs setBs
        walk_at "rt"
        by_cases kt : t ∈ NUMS
        · rw [decide_eq_true kt]
          obtain ⟨n, n12, rfl⟩ := of_nums kt
          walk_at "rt"
          refine rd_intN n12 ?_
          walk_at "rt"
          refine ⟨len1000 (by simp), fun D nD => ?_⟩
          refine qs ⟨sClear, (n : Int), -1, g⟩ ?_ _ D (same_new (Same.refl _) nD) upd_same
          show (if a = wClear ∧ TL.numL n ∈ NUMS then some (⟨sClear, ((NumText.digitsVal (TL.numL n) : Nat) : Int), -1, g⟩ : Ln) else none) = _
          rw [if_pos ⟨k, kt⟩, TL.numL_val]
        · rw [decide_eq_false kt]
          walk_at "rt"
          refine rd_miss (hit_len hL (by simp)) ?_
          walk_at "rt"
          refine qn ?_ _ (Same.refl _)
          exact if_neg fun z => kt z.2
      · refine rd_miss (hit_seq hL rfl (hs_not fun e => k (txt_inj e))) ?_
        refine rd_miss (hit_len hL (by simp)) ?_
        walk_at "rt"
        exact qn (if_neg fun z => k z.1) _ (Same.refl _)
    | [a, t, x, s], hL, qn, qs =>
      have hL : H l = some (.lst [.str (txt a), .str (txt t), .str (txt x), .str (txt s)]) := hL
      refine rd_miss (hit_len hL (by simp)) ?_
      by_cases k : x = wArr
      · refine rd_hit (bs := [(3, .str (txt a)), (2, .str (txt t)), (4, .str (txt s))]) (hit_seq hL rfl (by rw [k]; exact hs_cap (hs_cap (hs_str (hs_cap hs_nil))))) ?_
        show tAnd _ _ (setBs [(3, V.str (txt a)), (2, V.str (txt t)), (4, V.str (txt s))] _) H _
        unfold setBs setBs setBs setBs
        have fail : ¬ (x = wArr ∧ ((a = wCopy ∨ a = wMove) ∧ t ≠ s) ∧ (t ∈ NUMS ∧ s ∈ NUMS)) → ∀ H', Same H H' → Q V.non H' := fun z => qn (if_neg z)
        walk_at "rt"
        refine ⟨len1000 (by simp), fun c nc => ?_⟩
        refine rd_inT upd_same rfl rfl ?_
        rw [in_words]
        have S2 := same_new (o := .tup [V.str (Str.ofString "copy"), .str (Str.ofString "move")]) (Same.refl H) nc
        walk_at "rt"
        by_cases ka : a = wCopy ∨ a = wMove
        · rw [decide_eq_true ka]
          walk_at "rt"
          rw [dec_txt]
          by_cases kt : t = s
          · rw [decide_eq_true kt]
            walk_at "rt"
            exact fail (fun z => z.2.1.2 kt) _ S2
          · rw [decide_eq_false kt]
            walk_at "rt"
            by_cases k1 : t ∈ NUMS
            · rw [decide_eq_true k1]
              walk_at "rt"
              by_cases k2 : s ∈ NUMS
              · rw [decide_eq_true k2]
                obtain ⟨n, n12, rfl⟩ := of_nums k1
                obtain ⟨m, m12, rfl⟩ := of_nums k2
                walk_at "rt"
                refine rd_intN n12 ?_
                walk_at "rt"
                refine rd_intN m12 ?_
                walk_at "rt"
                refine ⟨len1000 (by simp), fun D nD => ?_⟩
                refine qs ⟨txt a, (n : Int), (m : Int), g⟩ ?_ _ D (same_new S2 nD) upd_same
                show (if x = wArr ∧ ((a = wCopy ∨ a = wMove) ∧ TL.numL n ≠ TL.numL m) ∧ (TL.numL n ∈ NUMS ∧ TL.numL m ∈ NUMS) then some (⟨txt a, ((NumText.digitsVal (TL.numL n) : Nat) : Int), ((NumText.digitsVal (TL.numL m) : Nat) : Int), g⟩ : Ln) else none) = _
                rw [if_pos ⟨k, ⟨ka, kt⟩, k1, k2⟩, TL.numL_val, TL.numL_val]
              · rw [decide_eq_false k2]
                walk_at "rt"
                exact fail (fun z => k2 z.2.2.2) _ S2
            · rw [decide_eq_false k1]
              walk_at "rt"
              exact fail (fun z => k1 z.2.2.1) _ S2
        · rw [decide_eq_false ka]
          walk_at "rt"
          exact fail (fun z => ka z.2.1.1) _ S2
      · refine rd_miss (hit_seq hL rfl (hs_cap (hs_cap (hs_not fun e => k (txt_inj e))))) ?_
        walk_at "rt"
        exact qn (if_neg fun z => k z.1) _ (Same.refl _)
    | [], hL, qn, qs =>
      refine rd_miss (hit_len hL (by simp)) ?_
      refine rd_miss (hit_len hL (by simp)) ?_
      walk_at "rt"
      exact qn rfl _ (Same.refl _)
    | [a], hL, qn, qs =>
      refine rd_miss (hit_len hL (by simp)) ?_
      refine rd_miss (hit_len hL (by simp)) ?_
      walk_at "rt"
      exact qn rfl _ (Same.refl _)
    | [a, b, c], hL, qn, qs =>
      refine rd_miss (hit_len hL (by simp)) ?_
      refine rd_miss (hit_len hL (by simp)) ?_
      walk_at "rt"
      exact qn rfl _ (Same.refl _)
    | a :: b :: c :: d :: e :: r, hL, qn, qs =>
      refine rd_miss (hit_len hL (by simp)) ?_
      refine rd_miss (hit_len hL (by simp)) ?_
      walk_at "rt"
      exact qn rfl _ (Same.refl _)
def sphas_guard_signs (_K : PySem.W.Frag) : Sp := fun vs H Q _ => ∃ gs : List Nat, vs = [.str (txt gs)] ∧ gs.length ≤ 1000 ∧ ∀ H', Same H H' → Q (.bl (gs.all isSg)) H'
set_option maxHeartbeats 4000000 in
theorem okhas_guard_signs (T : Top K mg) {f : Addr} {fd : FuncData} (D : Def K mg "has_guard_signs" shas_guard_signs ["text"] f fd) : FnOk P w K mg base CX0 1 f fd ["text"] (sphas_guard_signs K) := by
  refine D.F.ok schas_guard_signs (fun vs H Q E h => ?_) (fun cdv A outer s H vs Q E hr h => ?_)
  · obtain ⟨gs, rfl, _⟩ := h
    rfl
  · obtain ⟨gs, rfl, hl, q⟩ := h
    refine ⟨_, (pss_one (ps_ret (pe_callB (r := rAll K) (cr_all rfl) (by rfl) T.b_all (by decide +kernel) (pa_cons (pe_lc (own := [("sign", 1)]) (g := gName 1) (tt := tYes) rfl schas_guard_signs.nd (pi_str (pv 0))
      (blkOk_by (own := [("sign", 1)]) (N := ["text", "sign"]) (sc := defScope shas_guard_signs) (by decide +kernel)) (fun _ _ _ _ _ => (pg_name (i := 1) schas_guard_signs.nd rfl (.inl rfl))) (fun _ _ _ _ _ => pts_nil)
      (fun _ _ _ _ _ => (pe_cmpR op_sgnQ (pv 1) (Rv.pe_k (by rfl) T.k__GUARD_SIGNS) rfl))) pa_nil)))), ?_⟩
    walk_at "re"
    refine lc_map (walk_str (z := txt gs)) ((gs.map isSg).map V.bl) ?_ ?_ (fun _ _ => trivial) ?_ ?_
    · simp [txt]
    · show (txt gs).cps.size ≤ 1000
      have : (txt gs).cps.size = gs.length := by simp [txt]
      omega
    · rintro i x H2 H3 Qc R hi S ⟨rfl, c, ec, rfl⟩ qc
      have h1 : i < gs.length := by simpa [txt] using hi
      have ec2 : gs[i] = c := by
        have z : (txt gs).cps[i]? = some gs[i] := by simp [txt, h1]
        exact Option.some.inj (z.symm.trans ec)
      walk_at "re"
      refine ⟨rfl, ?_⟩
      walk_at "re"
      refine qc _ _ (Same.refl _) ?_
      rw [List.map_map, List.getElem?_map, List.getElem?_eq_getElem h1, ec2]
      rfl
    · intro H2 D S nD hD
      refine rd_all hD ?_
      have e : (gs.map isSg).all id = gs.all isSg := by rw [List.all_map]; rfl
      rw [e]
      exact q _ S
def sp_read_line (_K : PySem.W.Frag) : Sp := fun vs H Q _ => ∃ row : List Nat, vs = [.str (txt row)] ∧ row.length ≤ 100000 ∧ (∀ c ∈ row, c < 128) ∧
  (readL row = none → ∀ H', Same H H' → Q .non H') ∧ (∀ r, readL row = some r → ∀ H' D, Same H H' → H' D = some (.tup r.vals) → Q (.ref D) H')
set_option maxHeartbeats 4000000 in
theorem ok_read_line (T : Top K mg) {f : Addr} {fd : FuncData} (D : Def K mg "_read_line" s_read_line ["row"] f fd) : FnOk P w K mg base CX0 2 f fd ["row"] (sp_read_line K) := by
  obtain ⟨f_read_words, fd_read_words, D_read_words⟩ := T.d__read_words
  have G_read_words : FnOk P w K mg base CX0 1 f_read_words fd_read_words ["words", "guard"] (sp_read_words K) := ok_read_words T D_read_words
  obtain ⟨fhas_guard_signs, fdhas_guard_signs, Dhas_guard_signs⟩ := T.d_has_guard_signs
  have Ghas_guard_signs : FnOk P w K mg base CX0 1 fhas_guard_signs fdhas_guard_signs ["text"] (sphas_guard_signs K) := okhas_guard_signs T Dhas_guard_signs
  obtain ⟨a__NUMBERS, k__NUMBERS, h__NUMBERS⟩ := T.k__NUMBERS
  refine D.F.ok sc_read_line (fun vs H Q E h => ?_) (fun cdv A outer s H vs Q E hr h => ?_)
  · obtain ⟨row, rfl, _⟩ := h
    rfl
  · obtain ⟨row, rfl, hl, hc, qn, qs⟩ := h
    refine ⟨_, (pss_cons (ps_set (i := 1) sc_read_line.nd rfl (.inl rfl) (pe_splitQ (pv 0) pe_str))
    (pss_cons (ps_if (pt_cmpR (op_neD hr.units) (pe_slice sl_list (pv 1) (po_some (pe_un un_neg pe_int)) (po_some (pe_un un_neg pe_int))) (pe_lst (pa_cons pe_str pa_nil)) (nomark _)) (pss_one (ps_ret (pe_call G_read_words hr (by rfl) D_read_words.g D_read_words.F.kp D_read_words.b .nil pass0 (pa_cons (pv 1) (pa_cons pe_str pa_nil))))) pss_nil)
    (pss_cons (ps_set (i := 2) sc_read_line.nd rfl (.inl rfl) (pe_ix (r := rIxL K) ix_list (pv 1) (pe_un un_neg pe_int) (fun _ _ => rfl)))
    (pss_cons (ps_if (PW.pt (pw_or (pt_not (pt_chain op_le op_le pe_int (pe_callB call_lenZ (by rfl) T.b_len PySem.boot_len (pa_cons (pv 2) pa_nil)) (pe_callB (r := rLenQ K) call_lenQ (by rfl) T.b_len PySem.boot_len (pa_cons (Rv.pe_k (by rfl) k__NUMBERS) pa_nil)))) (pw_or1 (pt_not (pt_val (pe_call Ghas_guard_signs hr (by rfl) Dhas_guard_signs.g Dhas_guard_signs.F.kp Dhas_guard_signs.b .nil pass0 (pa_cons (pv 2) pa_nil))))))) (pss_one (ps_ret pe_non)) pss_nil)
    (pss_one (ps_ret (pe_call G_read_words hr (by rfl) D_read_words.g D_read_words.F.kp D_read_words.b .nil pass0 (pa_cons (pe_slice sl_list (pv 1) po_none (po_some (pe_un un_neg pe_int))) (pa_cons (pv 2) pa_nil))))))))), ?_⟩
    walk_at "rt"
    refine rd_split (c := 32) (by decide) (by omega) fun l nl => ?_
    have wne : TL.spl [32] 0 [] row ≠ [] := spl_ne [32] row
    have wc : ∀ w ∈ TL.spl [32] 0 [] row, ∀ c ∈ w, c < 128 := fun w hw c h => hc c (spl_mem hw h)
    have wl := spl_len [32] row
    unfold readL at qn qs
    generalize TL.spl [32] 0 [] row = ws at *
    obtain ⟨H1, eH1, S1, hL⟩ := new_gen (.lst (ws.map fun w => V.str (txt w))) nl
    rw [← eH1]
    walk_at "rt"
    refine rd_slL (SqL.of hL) fun l2 nl2 => ?_
    rw [cut_if wne]
    obtain ⟨H2, eH2, S2, hL2⟩ := new_gen (.lst (if 2 ≤ ws.length then [V.str (txt (ws.getD (ws.length - 2) []))] else [])) nl2
    rw [← eH2]
    walk_at "rt"
    refine ⟨len1000 (by simp), fun l3 nl3 => ?_⟩
    obtain ⟨H3, eH3, S3, hL3⟩ := new_gen (.lst [V.str (Str.ofString "if")]) nl3
    rw [← eH3]
    have S03 := (S1.trans S2).trans S3
    have h3 := S3 _ _ (S2 _ _ hL)
    refine rd_neIf (S3 _ _ hL2) hL3 wc ?_
    walk_at "rt"
    by_cases k : isIf ws = true
    · rw [k]
      have w2 : 2 ≤ ws.length := (of_decide_eq_true k).1
      obtain ⟨init, z, rfl⟩ : ∃ init z, ws = init ++ [z] := ⟨ws.dropLast, ws.getLast wne, (List.dropLast_concat_getLast wne).symm⟩
      have el : atI ((init ++ [z]).map fun w => V.str (txt w)) (-1) = some (.str (txt z)) := by
        rw [List.map_append]
        exact atI_last _ _
      have hlast : (init ++ [z]).getLastD [] = z := by simp
      rw [if_pos k, hlast] at qn qs
      have zc := wc z (by simp)
      have zl : z.length ≤ 100000 := Nat.le_trans (wl z (by simp)) hl
      have hz : (txt z).length ≤ sizeLine := by rw [txt_len]; exact big_line (by omega)
      have el2 : ((txt z).length : Int) = (z.length : Int) := by rw [txt_len]
      have none_of : ¬ ((1 ≤ z.length ∧ z.length ≤ 12) ∧ z.all isSg = true) → ∀ H', Same H H' → Q V.non H' := fun y => qn (if_neg y)
      walk_at "rt"
      rw [el2]
      by_cases k1 : (1 : Int) ≤ (z.length : Int)
      · walk_at "rt"
        by_cases k2 : (z.length : Int) ≤ 12
        · walk_at "rt"
          refine ⟨z, rfl, by omega, fun H4 S4 => ?_⟩
          have S04 := S03.trans S4
          have h4 := S4 _ _ h3
          walk_at "rt"
          by_cases k3 : z.all isSg = true
          · rw [k3]
            rw [if_pos ⟨⟨by omega, by omega⟩, k3⟩] at qn qs
            walk_at "rt"
            refine rd_slL (SqL.of h4) fun l5 nl5 => ?_
            rw [cut_to_m2 w2]
            obtain ⟨H5, eH5, S5, hL5⟩ := new_gen (.lst (((init ++ [z]).take ((init ++ [z]).length - 2)).map fun w => V.str (txt w))) nl5
            rw [← eH5]
            walk_at "rt"
            have S05 := S04.trans S5
            exact ⟨l5, _, z, rfl, hL5, fun e H' S => qn e _ (S05.trans S), fun r e H' D S hD => qs r e _ D (S05.trans S) hD⟩
          · have k4 : z.all isSg = false := by cases e : z.all isSg with | true => exact absurd e k3 | false => rfl
            rw [k4]
            walk_at "rt"
            exact none_of (fun y => k3 y.2) _ S04
        · walk_at "rt"
          exact none_of (fun y => k2 (by omega)) _ S03
      · walk_at "rt"
        exact none_of (fun y => k1 (by omega)) _ S03
    · have k2 : isIf ws = false := by cases e : isIf ws with | true => exact absurd e k | false => rfl
      rw [k2]
      rw [if_neg k] at qn qs
      walk_at "rt"
      exact ⟨l, ws, [], rfl, h3, fun e H' S => qn e _ (S03.trans S), fun r e H' D S hD => qs r e _ D (S03.trans S) hD⟩
def spread_script (K : PySem.W.Frag) : Sp := fun vs H Q E => ∃ cs : List Nat, vs = [.str (txt cs)] ∧ cs.length ≤ 90000 ∧ (∀ c ∈ cs, c < 128) ∧
  (∀ rs H' D qs, Read (TL.spl [10] 0 [] cs) 0 rs → Same H H' → H' D = some (.lst (qs.map V.ref)) → TupsAt H' qs (rows rs) → Q (.ref D) H') ∧
  (∀ (k : Nat) rs H' d, k ≠ 0 → Read (TL.spl [10] 0 [] cs) k rs → Same H H' → H' d = some (.xd [("line", .int (k : Int))]) → E (.ref (atTop K "InvalidText")) (some d) H')
set_option maxHeartbeats 4000000 in
theorem okread_script (T : Top K mg) {f : Addr} {fd : FuncData} (D : Def K mg "read_script" sread_script ["text"] f fd) : FnOk P w K mg base (L2.CX P w) 3 f fd ["text"] (spread_script K) := by
  obtain ⟨fE, fdE, ET, FE, bE⟩ := T.e_err
  have GI := okInit (P := P) (w := w) (base := base) ET FE
  obtain ⟨f_read_line, fd_read_line, D_read_line⟩ := T.d__read_line
  have G_read_line : FnOk P w K mg base CX0 2 f_read_line fd_read_line ["row"] (sp_read_line K) := ok_read_line T D_read_line
  refine D.F.okX scread_script (fun vs H Q E h => ?_) (fun cdv A outer s H vs Q E hr h => ?_)
  · obtain ⟨cs, rfl, _⟩ := h
    rfl
  · obtain ⟨cs, rfl, cl, cc, qs, qe⟩ := h
    refine ⟨_, (pss_cons (ps_set (i := 1) scread_script.nd rfl (.inl rfl) (pe_splitQ (pv 0) pe_str))
    (pss_cons (ps_set (i := 2) scread_script.nd rfl (.inl rfl) (pe_lst pa_nil))
    (pss_cons (ps_for (passes_of rfl) rfl (pi_enum (by rfl) T.b_enumerate (pa_cons (pe_slice sl_list (pv 1) po_none (po_some (pe_un un_neg pe_int))) pa_nil)) (pg_tup rfl (pgs_cons (pg_name (i := 3) scread_script.nd rfl (.inl rfl)) (pgs_cons (pg_name (i := 4) scread_script.nd rfl (.inl rfl)) pgs_nil))) (pss_cons (ps_set (i := 5) scread_script.nd rfl (.inl rfl) (pe_call G_read_line hr (by rfl) D_read_line.g D_read_line.F.kp D_read_line.b .nil pass0 (pa_cons (pv 4) pa_nil)))
    (pss_cons (ps_if (PW.pt (pw_or (pt_cmpR op_isNQ (pv 5) pe_non (nomark _)) (pw_or1 (pt_cmpR op_eq (pv 3) (Rv.pe_k (by rfl) T.k_MOST_LINES) (nomark _))))) (pss_one (ps_raiseQ rfl (takes_of rfl rfl rfl rfl) (pmk_oex ET.ox ET.iC ET.tI GI (hr.mono (by decide)) bE .nil pass0 (by rfl) ET.gC (pa_cons (pe_op op_add (pv 3) pe_int) pa_nil)))) pss_nil)
    (pss_one (ps_expr (pe_bm PySem.F.plainAttrs_list PySem.F.slot_list_append PySem.F.type_list_append mt_append (pv 2) (pa_cons (pv 5) pa_nil)))))))
    (pss_cons (ps_if (pt_cmpR op_ne (pe_ix (r := rIxL K) ix_list (pv 1) (pe_un un_neg pe_int) (fun _ _ => rfl)) pe_str (nomark _)) (pss_one (ps_raiseQ rfl (takes_of rfl rfl rfl rfl) (pmk_oex ET.ox ET.iC ET.tI GI (hr.mono (by decide)) bE .nil pass0 (by rfl) ET.gC (pa_cons (pe_callB (r := rLenQ K) call_lenQ (by rfl) T.b_len PySem.boot_len (pa_cons (pv 1) pa_nil)) pa_nil)))) pss_nil)
    (pss_one (ps_ret (pv 2))))))), ?_⟩
    walk_at "rt"
    refine rd_split (c := 10) (by decide) (by omega) fun l nl => ?_
    have wne : TL.spl [10] 0 [] cs ≠ [] := spl_ne [10] cs
    have wc : ∀ w ∈ TL.spl [10] 0 [] cs, ∀ c ∈ w, c < 128 := fun w hw c h => cc c (spl_mem hw h)
    have wl := spl_len [10] cs
    generalize TL.spl [10] 0 [] cs = ws at *
    obtain ⟨H1, eH1, S1, hL⟩ := new_gen (.lst (ws.map fun w => V.str (txt w))) nl
    rw [← eH1]
    walk_at "rt"
    refine ⟨by decide, fun f nf => ?_⟩
    have nlf : l ≠ f := ne_of_none hL nf
    obtain ⟨H2, eH2, S2, hf⟩ := new_gen (.lst []) nf
    rw [← eH2]
    walk_at "rt"
    refine rd_slL (SqL.of (S2 _ _ hL)) fun l2 nl2 => ?_
    have nfl : f ≠ l2 := ne_of_none hf nl2
    have ed : cutV (ws.map fun w => V.str (txt w)) none (some (-1)) = ws.dropLast.map fun w => V.str (txt w) := by
      rw [cut_to_m1, List.map_dropLast]
    rw [ed]
    obtain ⟨H3, eH3, S3, hl2⟩ := new_gen (.lst (ws.dropLast.map fun w => V.str (txt w))) nl2
    rw [← eH3]
    have hf3 := S3 _ _ hf
    have wp : 0 < ws.length := List.length_pos_iff.mpr wne
    have dl : ws.dropLast.length = ws.length - 1 := List.length_dropLast
    walk_at "rt"
    refine fr_it (walk_enum (xs := ws.dropLast.map fun w => V.str (txt w))) (fun i σ H' => ∃ (y3 y4 y5 : Option V) (qs : List Addr) (rs : List Ln), σ = [some (.str (txt cs)), some (.ref l), some (.ref f), y3, y4, y5] ∧ Same H1 H' ∧ H' l2 = some (.lst (ws.dropLast.map fun w => V.str (txt w))) ∧ H' f = some (.lst (qs.map V.ref)) ∧ TupsAt H' qs (rows rs) ∧ Front ws.dropLast rs ∧ rs.length = i)
      ⟨none, none, none, [], [], rfl, S2.trans S3, hl2, hf3, TupsAt.nil, Front.nil, rfl⟩ (fun i σ H' _ p => ?_) ?_ ?_
    · obtain ⟨_, _, _, _, _, _, _, z, _⟩ := p
      exact SqL.of z
    · rintro i x σ H4 H5 hi ⟨y3, y4, y5, qs2, rs, rfl, S4, h4, hf4, t4, fr, rfl⟩ ⟨t, u, v, rfl, nT, rfl, e1, e2⟩
      cases e1
      have hi2 : rs.length < ws.dropLast.length := by simpa using hi
      have e3 : (ws.dropLast.map fun w => V.str (txt w))[rs.length]? = some v := e2
      have e4 : v = .str (txt ws.dropLast[rs.length]) := by
        rw [List.getElem?_map, List.getElem?_eq_getElem hi2] at e3
        exact (Option.some.inj e3).symm
      subst e4
      have mem : ws.dropLast[rs.length] ∈ ws := List.dropLast_subset ws (List.getElem_mem hi2)
      have rc := wc _ mem
      have rl := wl _ mem
      have er : ∀ r, readL ws.dropLast[rs.length] = some r → rs.length ≠ 60 → Front ws.dropLast (rs ++ [r]) := fun r e n => fr.more hi2 e n
      have ew : readL ws.dropLast[rs.length] = none ∨ rs.length = 60 → Read ws (rs.length + 1) rs := fun e => Read.wrong fr hi2 e
      have m60 := fr.m60
      generalize ws.dropLast[rs.length] = row at *
      obtain ⟨H6, eH6, S6, h6⟩ := new_gen (.tup [.int (rs.length : Int), .str (txt row)]) nT
      rw [← eH6]
      walk_at "rt"
      refine ⟨row, rfl, by omega, rc, fun e H7 S7 => ?_, fun r e H7 D S7 hD => ?_⟩
      · walk_at "rt"
        rw [decide_eq_true (show V.non = V.non from rfl)]
        walk_at "rt"
        refine mkErr fun H8 d S8 hd => ?_
        exact qe (rs.length + 1) rs H8 d (by omega) (ew (.inl e)) (S1.trans ((S4.trans (S6.trans S7)).trans S8)) (by rw [hd]; rfl)
      · walk_at "rt"
        rw [decide_eq_false (show ¬ V.ref D = V.non from fun z => by cases z)]
        walk_at "rt"
        by_cases k : rs.length = 60
        · rw [decide_eq_true (show V.int (rs.length : Int) = V.int 60 from by rw [k]; rfl)]
          walk_at "rt"
          refine mkErr fun H8 d S8 hd => ?_
          exact qe (rs.length + 1) rs H8 d (by omega) (ew (.inr k)) (S1.trans ((S4.trans (S6.trans S7)).trans S8)) (by rw [hd]; rfl)
        · rw [decide_eq_false (show ¬ V.int (rs.length : Int) = V.int 60 from fun z => by have := V.int.inj z; omega)]
          have hf7 := S7 _ _ (S6 _ _ hf4)
          have hl7 := S7 _ _ (S6 _ _ h4)
          have ql : qs2.length = rs.length := by rw [t4.1, rows_len]
          have hlen : (qs2.map V.ref).length < 1000 := by rw [List.length_map]; omega
          walk_at "rt"
          refine ⟨_, _, _, qs2 ++ [D], rs ++ [r], rfl, same_mut (S4.trans (S6.trans S7)) nf, by rw [upd_ne nfl.symm]; exact hl7, by rw [upd_same, List.map_append]; rfl, ?_, er r e k, by rw [List.length_append]; rfl⟩
          rw [rows_app]
          exact ((t4.same (S6.trans S7)).app hD).mut (o := .lst (qs2.map V.ref ++ [.ref D])) hf7
    · rintro σ H4 ⟨y3, y4, y5, qs2, rs, rfl, S4, h4, hf4, t4, fr, el⟩
      rw [List.length_map] at el
      have hl4 := S4 _ _ hL
      obtain ⟨init, z, rfl⟩ : ∃ init z, ws = init ++ [z] := ⟨ws.dropLast, ws.getLast wne, (List.dropLast_concat_getLast wne).symm⟩
      have ea : atI ((init ++ [z]).map fun w => V.str (txt w)) (-1) = some (.str (txt z)) := by
        rw [List.map_append]
        exact atI_last _ _
      have hlast : (init ++ [z]).getLastD [] = z := by simp
      walk_at "rt"
      by_cases k : z = []
      · rw [decide_eq_true (show V.str (txt z) = V.str (Str.ofString "") from by rw [k]; rfl)]
        walk_at "rt"
        exact qs rs _ f qs2 ⟨fr, .inl ⟨rfl, el, by rw [hlast]; exact k⟩⟩ (S1.trans S4) hf4 t4
      · rw [decide_eq_false (show ¬ V.str (txt z) = V.str (Str.ofString "") from fun e => k (txt_inj (b := []) (V.str.inj e)))]
        walk_at "rt"
        refine mkErr fun H8 d S8 hd => ?_
        refine qe (init ++ [z]).length rs H8 d (by simp) ⟨fr, .inr (.inl ⟨rfl, by simp, el, by rw [hlast]; exact k⟩)⟩ ((S1.trans S4).trans S8) (by rw [hd, List.length_map])
def sp_law_told (_K : PySem.W.Frag) : Sp := fun vs H Q _ => ∃ cs : List Nat, vs = [.str (txt cs)] ∧ cs.length ≤ 90000 ∧ (∀ c ∈ cs, c < 128) ∧
  (∀ rs H' D R qs, Read (TL.spl [10] 0 [] cs) 0 rs → Same H H' → H' D = some (.lst [.int 0, .ref R, .bl true]) → H' R = some (.lst (qs.map V.ref)) → TupsAt H' qs (rows rs) → Q (.ref D) H') ∧
  (∀ (k : Nat) rs H' D, k ≠ 0 → Read (TL.spl [10] 0 [] cs) k rs → Same H H' → H' D = some (.lst [.int 1, .int (k : Int), .bl true]) → Q (.ref D) H')
set_option maxHeartbeats 4000000 in
theorem ok_law_told (T : Top K mg) {f : Addr} {fd : FuncData} (D : Def K mg "_law_told" s_law_told ["text"] f fd) : FnOk P w K mg base CX0 4 f fd ["text"] (sp_law_told K) := by
  obtain ⟨fE, fdE, ET, FE, bE⟩ := T.e_err
  obtain ⟨cL, gL, kL⟩ := T.e_line
  obtain ⟨cI, gI, kI⟩ := T.e_image
  obtain ⟨fread_script, fdread_script, Dread_script⟩ := T.d_read_script
  have Gread_script : FnOk P w K mg base (L2.CX P w) 3 fread_script fdread_script ["text"] (spread_script K) := okread_script T Dread_script
  refine D.F.ok sc_law_told (fun vs H Q E h => ?_) (fun cdv A outer s H vs Q E hr h => ?_)
  · obtain ⟨cs, rfl, _⟩ := h
    rfl
  · obtain ⟨cs, rfl, cl, cc, qs, qe⟩ := h
    refine ⟨_, (pss_cons (ps_tryA (i := 2) (fun W => tAsg (tCallS (spread_script K) (WE W) (tCons (tVar 0) tNil)) (gName 1)) (fun a cls d => tsTold K a cls d (atTop K "InvalidText") cL cI) rfl rfl sc_law_told.nd rfl rfl ⟨rfl, by decide, .inl ET.gC⟩ (fun W pn xe tk => (pss_one (ps_set (i := 1) sc_law_told.nd rfl (.inl rfl) (pe_callS Gread_script hr (by rfl) Dread_script.g Dread_script.F.kp Dread_script.b (fun σ => passAt tk σ) (pa_cons (pv 0) pa_nil))))) (fun a oe cls d pn hz hf => (pss_cons (ps_set (i := 3) sc_law_told.nd rfl (.inl rfl) (pe_or (pe_callB (call_isX ET.ec ET.icl hz hf) (by rfl) T.b_isinstance (by decide +kernel) (pa_cons (pv 2) (pa_cons (Rv.pe_k (by rfl) gL) pa_nil))) (pe_one (pe_callB (call_isX ET.ec ET.icl hz hf) (by rfl) T.b_isinstance (by decide +kernel) (pa_cons (pv 2) (pa_cons (Rv.pe_k (by rfl) gI) pa_nil))))))
    (pss_one (ps_ret (pe_lst (pa_cons pe_int (pa_cons (pe_xf ET.xf ET.noN hz hf (pv 2)) (pa_cons (pe_and (pe_callB (call_isX ET.ec ET.icl hz hf) (by rfl) T.b_isinstance (by decide +kernel) (pa_cons (pv 2) (pa_cons (pe_bltn (v := .ty "ValueError") (by rfl) T.b_ValueError (by decide +kernel) rfl) pa_nil))) (pe_one (pe_not (pv 3)))) pa_nil)))))))))
    (pss_one (ps_ret (pe_lst (pa_cons pe_int (pa_cons (pv 1) (pa_cons pe_bl pa_nil))))))), ?_⟩
    walk_at "rt"
    refine rd_tryA ?_
    walk_at "rt"
    refine ⟨cs, rfl, cl, cc, fun rs H1 R ps rd S1 hR t1 => ?_, fun k rs H1 d k0 rd S1 hd => ?_⟩
    · walk_at "rt"
      refine ⟨len1000 (by simp), fun D nD => ?_⟩
      obtain ⟨H2, eH2, S2, hD⟩ := new_gen (.lst [.int 0, .ref R, .bl true]) nD
      rw [← eH2]
      exact qs rs H2 D R ps rd (S1.trans S2) hD (S2 _ _ hR) (t1.same S2)
    · refine ⟨true, T.e_self, fun _ a na => ?_, fun q => Bool.noConfusion q⟩
      show tsTold K a (.ref (atTop K "InvalidText")) (some d) (atTop K "InvalidText") cL cI _ _ _
      unfold tsTold
      walk_at "rt"
      refine ⟨.ref cL, .ref cL, false, d, _, rfl, fun u h => h, kL, rfl, rfl, hd, ?_⟩
      walk_at "rt"
      refine ⟨.ref cI, .ref cI, false, d, _, rfl, fun u h => h, kI, rfl, rfl, hd, ?_⟩
      walk_at "rt"
      refine ⟨rfl, rfl, d, _, .int (k : Int), rfl, hd, by simp [List.lookup], ?_⟩
      walk_at "rt"
      refine ⟨.ty "ValueError", .type "ValueError", true, d, _, rfl, fun u h => h, T.e_ve, rfl, rfl, hd, ?_⟩
      walk_at "rt"
      refine ⟨len1000 (by simp), fun D nD => ?_⟩
      obtain ⟨H2, eH2, S2, hD⟩ := new_gen (.lst [.int 1, .int (k : Int), .bl true]) nD
      show Q (.ref D) (upd H1 D (.lst [.int 1, .int (k : Int), .bl true]))
      rw [← eH2]
      exact qe k rs H2 D k0 rd (S1.trans S2) hD
def sp_law_refused (_K : PySem.W.Frag) : Sp := fun vs H Q _ => ∃ cs : List Nat, vs = [.str (txt cs)] ∧ cs.length ≤ 90000 ∧ (∀ c ∈ cs, c < 128) ∧ (∃ k rs, k ≠ 0 ∧ Read (TL.spl [10] 0 [] cs) k rs) ∧ ∀ H', Same H H' → Q (.bl true) H'
set_option maxHeartbeats 4000000 in
theorem ok_law_refused (T : Top K mg) {f : Addr} {fd : FuncData} (D : Def K mg "_law_refused" s_law_refused ["text"] f fd) : FnOk P w K mg base CX0 4 f fd ["text"] (sp_law_refused K) := by
  obtain ⟨fE, fdE, ET, FE, bE⟩ := T.e_err
  obtain ⟨cR, gR, kR⟩ := T.e_redo
  obtain ⟨fread_script, fdread_script, Dread_script⟩ := T.d_read_script
  have Gread_script : FnOk P w K mg base (L2.CX P w) 3 fread_script fdread_script ["text"] (spread_script K) := okread_script T Dread_script
  refine D.F.ok sc_law_refused (fun vs H Q E h => ?_) (fun cdv A outer s H vs Q E hr h => ?_)
  · obtain ⟨cs, rfl, _⟩ := h
    rfl
  · obtain ⟨cs, rfl, cl, cc, ⟨k0, rs0, kn, rd0⟩, q⟩ := h
    refine ⟨_, (pss_cons (ps_tryO (fun W => tDrop (tCallS (spread_script K) (WE W) (tCons (tVar 0) tNil))) (fun _ _ _ => tRet (tC (.bl true))) rfl rfl ⟨rfl, by decide, .inl gR⟩ (fun W pn xe tk => (pss_one (ps_expr (pe_callS Gread_script hr (by rfl) Dread_script.g Dread_script.F.kp Dread_script.b (fun σ => passAt tk σ) (pa_cons (pv 0) pa_nil))))) (fun a oe cls d pn hz hf => (pss_one (ps_ret pe_bl))))
    (pss_one (ps_ret pe_bl))), ?_⟩
    walk_at "rt"
    refine rd_tryO ?_
    walk_at "rt"
    refine ⟨cs, rfl, cl, cc, fun rs H1 R ps rd S1 hR t1 => absurd (rd0.same rd).1 kn, fun k rs H1 d k0 rd S1 hd => ?_⟩
    refine ⟨true, kR, fun _ a na => ?_, fun q => Bool.noConfusion q⟩
    show tRet (tC (.bl true)) _ _ _
    walk_at "rt"
    exact q _ S1
def sp_law_is_whole (_K : PySem.W.Frag) : Sp := fun vs H Q _ => ∃ i : Int, vs = [.int i] ∧ Q (.bl true) H
set_option maxHeartbeats 4000000 in
theorem ok_law_is_whole (T : Top K mg) {f : Addr} {fd : FuncData} (D : Def K mg "_law_is_whole" s_law_is_whole ["told"] f fd) : FnOk P w K mg base CX0 1 f fd ["told"] (sp_law_is_whole K) := by
  refine D.F.ok sc_law_is_whole (fun vs H Q E h => ?_) (fun cdv A outer s H vs Q E hr h => ?_)
  · obtain ⟨i, rfl, _⟩ := h
    rfl
  · obtain ⟨i, rfl, q⟩ := h
    refine ⟨_, (pss_one (ps_ret (pe_and (pe_callB (r := rIsi K) call_isi (by rfl) T.b_isinstance (by decide +kernel) (pa_cons (pv 0) (pa_cons (pe_bltn (v := .ty "int") (by rfl) T.b_int (by decide +kernel) rfl) pa_nil))) (pe_one (pe_not (pe_callB (r := rIsi K) call_isi (by rfl) T.b_isinstance (by decide +kernel) (pa_cons (pv 0) (pa_cons (pe_bltn (v := .ty "bool") (by rfl) T.b_bool (by decide +kernel) rfl) pa_nil)))))))), ?_⟩
    walk_at "rd"
    exact q
def sp_law_same_rows (_K : PySem.W.Frag) : Sp := fun vs H Q _ => ∃ (a b : Addr) (ps qs : List Addr) (rs : List Ln), vs = [.ref a, .ref b] ∧ H a = some (.lst (ps.map V.ref)) ∧ H b = some (.lst (qs.map V.ref)) ∧ TupsAt H ps (rows rs) ∧ TupsAt H qs (rows rs) ∧ rs.length ≤ 1000 ∧ (∀ r ∈ rs, RdOk r) ∧ Q (.bl true) H
set_option maxHeartbeats 4000000 in
theorem ok_law_same_rows (T : Top K mg) {f : Addr} {fd : FuncData} (D : Def K mg "_law_same_rows" s_law_same_rows ["told", "due"] f fd) : FnOk P w K mg base CX0 2 f fd ["told", "due"] (sp_law_same_rows K) := by
  obtain ⟨f_law_is_whole, fd_law_is_whole, D_law_is_whole⟩ := T.d__law_is_whole
  have G_law_is_whole : FnOk P w K mg base CX0 1 f_law_is_whole fd_law_is_whole ["told"] (sp_law_is_whole K) := ok_law_is_whole T D_law_is_whole
  refine D.F.ok sc_law_same_rows (fun vs H Q E h => ?_) (fun cdv A outer s H vs Q E hr h => ?_)
  · obtain ⟨a, b, ps, qs, rs, rfl, _⟩ := h
    rfl
  · obtain ⟨a, b, ps, qs, rs, rfl, hA, hB, tA, tB, l1, ok, q⟩ := h
    have pl : ps.length = rs.length := tA.1.trans (rows_len _)
    have ql : qs.length = rs.length := tB.1.trans (rows_len _)
    have hn : V.int (((ps.map V.ref).length : Nat) : Int) = V.int (((qs.map V.ref).length : Nat) : Int) := by rw [List.length_map, List.length_map, pl, ql]
    have hrg : -100000 ≤ (((qs.map V.ref).length : Nat) : Int) ∧ (((qs.map V.ref).length : Nat) : Int) ≤ 100000 := by rw [List.length_map]; omega
    refine ⟨_, (pss_cons (ps_if (PW.pt (pw_or (pt_not (pt_val (pe_callB (r := rIsi K) call_isi (by rfl) T.b_isinstance (by decide +kernel) (pa_cons (pv 0) (pa_cons (pe_bltn (v := .ty "list") (by rfl) T.b_list (by decide +kernel) rfl) pa_nil))))) (pw_or1 (pt_cmpR op_ne (pe_callB (r := rLenQ K) call_lenQ (by rfl) T.b_len PySem.boot_len (pa_cons (pv 0) pa_nil)) (pe_callB (r := rLenQ K) call_lenQ (by rfl) T.b_len PySem.boot_len (pa_cons (pv 1) pa_nil)) (nomark _))))) (pss_one (ps_ret pe_bl)) pss_nil)
    (pss_cons (ps_for PassesOwn.never rfl (pi_range1 (by rfl) T.b_range (pa_cons (pe_callB (r := rLenQ K) call_lenQ (by rfl) T.b_len PySem.boot_len (pa_cons (pv 1) pa_nil)) pa_nil)) (pg_name (i := 2) sc_law_same_rows.nd rfl (.inl rfl)) (pss_cons (ps_set (i := 3) sc_law_same_rows.nd rfl (.inl rfl) (pe_ix (r := rIxL K) ix_list (pv 0) (pv 2) (fun _ _ => rfl)))
    (pss_cons (ps_if (PW.pt (pw_or (pt_not (pt_val (pe_callB (r := rIsi K) call_isi (by rfl) T.b_isinstance (by decide +kernel) (pa_cons (pv 3) (pa_cons (pe_bltn (v := .ty "tuple") (by rfl) T.b_tuple (by decide +kernel) rfl) pa_nil))))) (pw_or1 (pt_cmpR op_ne (pe_callB (r := rLenQ K) call_lenQ (by rfl) T.b_len PySem.boot_len (pa_cons (pv 3) pa_nil)) pe_int (nomark _))))) (pss_one (ps_ret pe_bl)) pss_nil)
    (pss_cons (ps_if (PW.pt (pw_or (pt_not (pt_val (pe_callB (r := rIsi K) call_isi (by rfl) T.b_isinstance (by decide +kernel) (pa_cons (pe_ix (r := rIxT K) ix_tup (pv 3) pe_int (fun _ _ => rfl)) (pa_cons (pe_bltn (v := .ty "str") (by rfl) T.b_str (by decide +kernel) rfl) pa_nil))))) (pw_or1 (pt_not (pt_val (pe_call G_law_is_whole hr (by rfl) D_law_is_whole.g D_law_is_whole.F.kp D_law_is_whole.b .nil pass0 (pa_cons (pe_ix (r := rIxT K) ix_tup (pv 3) pe_int (fun _ _ => rfl)) pa_nil))))))) (pss_one (ps_ret pe_bl)) pss_nil)
    (pss_one (ps_if (PW.pt (pw_or (pt_not (pt_val (pe_call G_law_is_whole hr (by rfl) D_law_is_whole.g D_law_is_whole.F.kp D_law_is_whole.b .nil pass0 (pa_cons (pe_ix (r := rIxT K) ix_tup (pv 3) pe_int (fun _ _ => rfl)) pa_nil)))) (pw_or (pt_not (pt_val (pe_callB (r := rIsi K) call_isi (by rfl) T.b_isinstance (by decide +kernel) (pa_cons (pe_ix (r := rIxT K) ix_tup (pv 3) pe_int (fun _ _ => rfl)) (pa_cons (pe_bltn (v := .ty "str") (by rfl) T.b_str (by decide +kernel) rfl) pa_nil))))) (pw_or1 (pt_cmpR (op_neD hr.units) (pv 3) (pe_ix (r := rIxL K) ix_list (pv 1) (pv 2) (fun _ _ => rfl)) (nomark _)))))) (pss_one (ps_ret pe_bl)) pss_nil))))))
    (pss_one (ps_ret pe_bl)))), ?_⟩
    walk_at "re"
    refine fr_rng0 (fun i σ H' => ∃ y z, σ = [some (.ref a), some (.ref b), y, z] ∧ H' = H) ⟨none, none, rfl, rfl⟩ ?_ ?_
    · rintro i σ H1 hi ⟨y, z, rfl, rfl⟩
      have hi2 : i < rs.length := by
        have q : i < (qs.map V.ref).length := hi
        rw [List.length_map] at q
        omega
      obtain ⟨p, ep, hp⟩ := tA.get (i := i) (by rw [rows_len]; exact hi2)
      obtain ⟨z, ez, hz⟩ := tB.get (i := i) (by rw [rows_len]; exact hi2)
      have ee : (rows rs)[i]'(by rw [rows_len]; exact hi2) = rs[i].vals := by simp [rows]
      rw [ee] at hp hz
      have okr := ok _ (List.getElem_mem hi2)
      have ea : atI (ps.map V.ref) (i : Int) = some (.ref p) := atI_nat (by rw [List.getElem?_map, ep]; rfl)
      have eb : atI (qs.map V.ref) (i : Int) = some (.ref z) := atI_nat (by rw [List.getElem?_map, ez]; rfl)
      have hp' : H1 p = some (.tup [.str rs[i].w, .int rs[i].t, .int rs[i].o, .str (txt rs[i].g)]) := hp
      have hn4 : V.int ((([V.str rs[i].w, .int rs[i].t, .int rs[i].o, .str (txt rs[i].g)] : List V).length : Nat) : Int) = V.int 4 := rfl
      walk_at "re"
      refine ⟨rs[i].t, rfl, ?_⟩
      walk_at "re"
      refine ⟨rs[i].o, rfl, ?_⟩
      walk_at "re"
      refine rd_neLn hp hz okr ?_
      walk_at "re"
      exact ⟨_, _, rfl, rfl⟩
    · rintro σ H1 ⟨y, z, rfl, rfl⟩
      walk_at "re"
      exact q
def sp_law_asked (_K : PySem.W.Frag) : Sp := fun vs H Q _ => ∃ cs : List Nat, vs = [.str (txt cs)] ∧ cs.length ≤ 90000 ∧ (∀ c ∈ cs, c < 128) ∧ ∀ H', Same H H' → Q (.bl true) H'
set_option maxHeartbeats 4000000 in
theorem ok_law_asked (T : Top K mg) {f : Addr} {fd : FuncData} (D : Def K mg "_law_asked" s_law_asked ["text"] f fd) : FnOk P w K mg base CX0 5 f fd ["text"] (sp_law_asked K) := by
  obtain ⟨f_law_read, fd_law_read, D_law_read⟩ := T.d__law_read
  have G_law_read : FnOk P w K mg base CX0 3 f_law_read fd_law_read ["text"] (sp_law_read K) := ok_law_read T D_law_read
  obtain ⟨f_law_told, fd_law_told, D_law_told⟩ := T.d__law_told
  have G_law_told : FnOk P w K mg base CX0 4 f_law_told fd_law_told ["text"] (sp_law_told K) := ok_law_told T D_law_told
  obtain ⟨f_law_refused, fd_law_refused, D_law_refused⟩ := T.d__law_refused
  have G_law_refused : FnOk P w K mg base CX0 4 f_law_refused fd_law_refused ["text"] (sp_law_refused K) := ok_law_refused T D_law_refused
  obtain ⟨f_law_same_rows, fd_law_same_rows, D_law_same_rows⟩ := T.d__law_same_rows
  have G_law_same_rows : FnOk P w K mg base CX0 2 f_law_same_rows fd_law_same_rows ["told", "due"] (sp_law_same_rows K) := ok_law_same_rows T D_law_same_rows
  obtain ⟨f_law_is_whole, fd_law_is_whole, D_law_is_whole⟩ := T.d__law_is_whole
  have G_law_is_whole : FnOk P w K mg base CX0 1 f_law_is_whole fd_law_is_whole ["told"] (sp_law_is_whole K) := ok_law_is_whole T D_law_is_whole
  refine D.F.ok sc_law_asked (fun vs H Q E h => ?_) (fun cdv A outer s H vs Q E hr h => ?_)
  · obtain ⟨cs, rfl, _⟩ := h
    rfl
  · obtain ⟨cs, rfl, cl, cc, q⟩ := h
    refine ⟨_, (pss_cons (ps_set (i := 1) sc_law_asked.nd rfl (.inl rfl) (pe_call G_law_read (hr.mono (by decide)) (by rfl) D_law_read.g D_law_read.F.kp D_law_read.b .nil pass0 (pa_cons (pv 0) pa_nil)))
    (pss_cons (ps_set (i := 2) sc_law_asked.nd rfl (.inl rfl) (pe_call G_law_told hr (by rfl) D_law_told.g D_law_told.F.kp D_law_told.b .nil pass0 (pa_cons (pv 0) pa_nil)))
    (pss_cons (ps_if (pt_cmpR op_eq (pe_ix (r := rIxL K) ix_list (pv 1) pe_int (fun _ _ => rfl)) pe_int (nomark _)) (pss_one (ps_ret (pe_and (pe_cmpR op_eq (pe_ix (r := rIxL K) ix_list (pv 2) pe_int (fun _ _ => rfl)) pe_int (nomark _)) (pe_one (pe_call G_law_same_rows (hr.mono (by decide)) (by rfl) D_law_same_rows.g D_law_same_rows.F.kp D_law_same_rows.b .nil pass0 (pa_cons (pe_ix (r := rIxL K) ix_list (pv 2) pe_int (fun _ _ => rfl)) (pa_cons (pe_ix (r := rIxL K) ix_list (pv 1) pe_int (fun _ _ => rfl)) pa_nil))))))) pss_nil)
    (pss_cons (ps_if (PW.pt (pw_or (pt_cmpR op_ne (pe_ix (r := rIxL K) ix_list (pv 2) pe_int (fun _ _ => rfl)) pe_int (nomark _)) (pw_or (pt_not (pt_val (pe_ix (r := rIxL K) ix_list (pv 2) pe_int (fun _ _ => rfl)))) (pw_or1 (pt_not (pt_val (pe_call G_law_is_whole (hr.mono (by decide)) (by rfl) D_law_is_whole.g D_law_is_whole.F.kp D_law_is_whole.b .nil pass0 (pa_cons (pe_ix (r := rIxL K) ix_list (pv 2) pe_int (fun _ _ => rfl)) pa_nil)))))))) (pss_one (ps_ret pe_bl)) pss_nil)
    (pss_one (ps_ret (pe_and (pe_cmpR op_eq (pe_ix (r := rIxL K) ix_list (pv 2) pe_int (fun _ _ => rfl)) (pe_ix (r := rIxL K) ix_list (pv 1) pe_int (fun _ _ => rfl)) (nomark _)) (pe_one (pe_call G_law_refused hr (by rfl) D_law_refused.g D_law_refused.F.kp D_law_refused.b .nil pass0 (pa_cons (pv 0) pa_nil)))))))))), ?_⟩
    walk_at "rt"
    refine ⟨cs, rfl, cl, fun k rs H1 D R qs rd S1 hD hR tR => ?_⟩
    walk_at "rt"
    refine ⟨cs, rfl, cl, cc, fun rs2 H2 D2 R2 qs2 rd2 S2 hD2 hR2 tR2 => ?_, fun k2 rs2 H2 D2 k20 rd2 S2 hD2 => ?_⟩
    · obtain ⟨rfl, rfl⟩ := rd.same rd2
      have hD' := S2 _ _ hD
      have ok := rd.fr.ok
      have m60 := rd.fr.m60
      walk_at "rt"
      rw [decide_eq_true (show V.int ((0 : Nat) : Int) = V.int 0 from rfl)]
      walk_at "rt"
      rw [decide_eq_true (show V.int 0 = V.int 0 from rfl)]
      walk_at "rt"
      refine ⟨R2, R, qs2, qs, rs, rfl, hR2, S2 _ _ hR, tR2, tR.same S2, by omega, ok, ?_⟩
      exact q _ (S1.trans S2)
    · obtain ⟨rfl, rfl⟩ := rd.same rd2
      have hD' := S2 _ _ hD
      walk_at "rt"
      rw [decide_eq_false (show ¬ V.int (k : Int) = V.int 0 from fun z => k20 (by have := V.int.inj z; omega))]
      walk_at "rt"
      rw [decide_eq_true (show V.int 1 = V.int 1 from rfl)]
      walk_at "rt"
      refine ⟨(k : Int), rfl, ?_⟩
      walk_at "rt"
      rw [decide_eq_true (show V.int (k : Int) = V.int (k : Int) from rfl)]
      walk_at "rt"
      refine ⟨cs, rfl, cl, cc, ⟨k, rs, k20, rd⟩, fun H3 S3 => ?_⟩
      exact q _ ((S1.trans S2).trans S3)
theorem strs_mk (l : List (List Nat)) : ∀ {i : Nat} {v : V}, (l.map fun w => V.str (txt w))[i]? = some v → ∃ w ∈ l, v = .str (txt w) := fun {i v} e => by
  obtain ⟨w, hw, rfl⟩ := List.mem_map.mp (List.mem_of_getElem? e)
  exact ⟨w, hw, rfl⟩
def sp_law_bent_word (_K : PySem.W.Frag) : Sp := fun vs H Q _ => ∃ (c b l : Addr) (ns : List Int) (ws : List (List Nat)) (k : Nat) (way : Int), vs = [.ref b, .ref l, .int k, .int way] ∧ Bag c ns b H ∧ H l = some (.lst (ws.map fun w => V.str (txt w))) ∧ l ≠ b ∧ Wb 50 50 ws ∧ k < ws.length ∧
  ∀ H' D ws', Wd c ns b H H' → H' D = some (.lst (ws'.map fun w => V.str (txt w))) → Wb 200 5400 ws' → Q (.ref D) H'
set_option maxHeartbeats 4000000 in
theorem ok_law_bent_word (T : Top K mg) {f : Addr} {fd : FuncData} (D : Def K mg "_law_bent_word" s_law_bent_word ["bag", "words", "spot", "way"] f fd) : FnOk P w K mg base CX0 2 f fd ["bag", "words", "spot", "way"] (sp_law_bent_word K) := by
  obtain ⟨f_law_draw, fd_law_draw, D_law_draw⟩ := T.d__law_draw
  have G_law_draw : FnOk P w K mg base CX0 1 f_law_draw fd_law_draw ["bag", "many"] (sp_law_draw K) := ok_law_draw T D_law_draw
  refine D.F.ok sc_law_bent_word (fun vs H Q E h => ?_) (fun cdv A outer s H vs Q E hr h => ?_)
  · obtain ⟨c, b, l, ns, ws, k, way, rfl, _⟩ := h
    rfl
  · obtain ⟨c, b, l, ns, ws, k, way, rfl, B, hL, nlb, wb, hk, q⟩ := h
    have hw := wb.c _ (List.getElem_mem hk)
    have hwl := wb.len _ (List.getElem_mem hk)
    have ew : atI (ws.map fun w => V.str (txt w)) (k : Int) = some (.str (txt ws[k])) := by
      rw [atI_get (by rw [List.length_map]; exact hk), List.getElem_map]
    have bf := wb.take k
    have af := wb.drop (k + 1)
    have wn := wb.n
    generalize ws[k] = w at *
    refine ⟨_, (pss_cons (ps_set (i := 4) sc_law_bent_word.nd rfl (.inl rfl) (pe_ix (r := rIxL K) ix_list (pv 1) (pv 2) (fun _ _ => rfl)))
    (pss_cons (ps_set (i := 5) sc_law_bent_word.nd rfl (.inl rfl) (pe_slice sl_list (pv 1) po_none (po_some (pv 2))))
    (pss_cons (ps_set (i := 6) sc_law_bent_word.nd rfl (.inl rfl) (pe_slice sl_list (pv 1) (po_some (pe_op op_add (pv 2) pe_int)) po_none))
    (pss_cons (ps_if (pt_cmpR op_eq (pv 3) pe_int (nomark _)) (pss_one (ps_ret (pe_op op_cat (pe_op op_cat (pv 5) (pe_lst (pa_cons pe_str (pa_cons (pv 4) pa_nil)))) (pv 6)))) pss_nil)
    (pss_cons (ps_if (pt_cmpR op_eq (pv 3) pe_int (nomark _)) (pss_one (ps_ret (pe_op op_cat (pe_op op_cat (pv 5) (pe_lst (pa_cons (pv 4) (pa_cons (pv 4) pa_nil)))) (pv 6)))) pss_nil)
    (pss_cons (ps_if (pt_cmpR op_eq (pv 3) pe_int (nomark _)) (pss_one (ps_ret (pe_op op_cat (pv 5) (pv 6)))) pss_nil)
    (pss_cons (ps_if (pt_cmpR op_eq (pv 3) pe_int (nomark _)) (pss_one (ps_ret (pe_op op_cat (pe_op op_cat (pe_op op_cat (pv 5) (pe_slice sl_list (pv 6) po_none (po_some pe_int))) (pe_lst (pa_cons (pv 4) pa_nil))) (pe_slice sl_list (pv 6) (po_some pe_int) po_none)))) pss_nil)
    (pss_cons (ps_if (pt_cmpR op_eq (pv 3) pe_int (nomark _)) (pss_one (ps_ret (pe_op op_cat (pe_op op_cat (pv 5) (pe_lst (pa_cons (pe_op op_addZ pe_str (pv 4)) pa_nil))) (pv 6)))) pss_nil)
    (pss_cons (ps_if (pt_cmpR op_eq (pv 3) pe_int (nomark _)) (pss_one (ps_ret (pe_op op_cat (pe_op op_cat (pv 5) (pe_lst (pa_cons (pe_op op_addZ (pe_ix (r := rIxL K) ix_list (pe_lst (pa_cons pe_str (pa_cons pe_str (pa_cons pe_str (pa_cons pe_str (pa_cons pe_str pa_nil)))))) (pe_call G_law_draw hr (by rfl) D_law_draw.g D_law_draw.F.kp D_law_draw.b .nil pass0 (pa_cons (pv 0) (pa_cons pe_int pa_nil))) (fun _ _ => rfl)) (pv 4)) pa_nil))) (pv 6)))) pss_nil)
    (pss_cons (ps_if (pt_cmpR op_eq (pv 3) pe_int (nomark _)) (pss_one (ps_ret (pe_op op_cat (pe_op op_cat (pv 5) (pe_lst (pa_cons (pe_upQ (pv 4)) pa_nil))) (pv 6)))) pss_nil)
    (pss_cons (ps_if (pt_cmpR op_eq (pv 3) pe_int (nomark _)) (pss_one (ps_ret (pe_op op_cat (pe_op op_cat (pv 5) (pe_lst (pa_cons (pe_op op_mulS (pe_ix (r := rIxL K) ix_list (pe_lst (pa_cons pe_str (pa_cons pe_str pa_nil))) (pe_call G_law_draw hr (by rfl) D_law_draw.g D_law_draw.F.kp D_law_draw.b .nil pass0 (pa_cons (pv 0) (pa_cons pe_int pa_nil))) (fun _ _ => rfl)) pe_int) pa_nil))) (pv 6)))) pss_nil)
    (pss_cons (ps_if (pt_cmpR op_eq (pv 3) pe_int (nomark _)) (pss_one (ps_ret (pe_op op_cat (pe_op op_cat (pv 5) (pe_lst (pa_cons (pe_ix (r := rIxL K) ix_list (pe_lst (pa_cons (pe_callTy call_strQ (by rfl) T.b_str (by decide +kernel) (pa_cons (pe_op op_add pe_int (pe_call G_law_draw hr (by rfl) D_law_draw.g D_law_draw.F.kp D_law_draw.b .nil pass0 (pa_cons (pv 0) (pa_cons pe_int pa_nil)))) pa_nil)) (pa_cons pe_str (pa_cons pe_str pa_nil)))) (pe_call G_law_draw hr (by rfl) D_law_draw.g D_law_draw.F.kp D_law_draw.b .nil pass0 (pa_cons (pv 0) (pa_cons pe_int pa_nil))) (fun _ _ => rfl)) pa_nil))) (pv 6)))) pss_nil)
    (pss_cons (ps_if (pt_cmpR op_eq (pv 3) pe_int (nomark _)) (pss_one (ps_ret (pe_op op_cat (pe_op op_cat (pv 5) (pe_lst (pa_cons (pe_callTy call_strQ (by rfl) T.b_str (by decide +kernel) (pa_cons (pe_call G_law_draw hr (by rfl) D_law_draw.g D_law_draw.F.kp D_law_draw.b .nil pass0 (pa_cons (pv 0) (pa_cons pe_int pa_nil))) pa_nil)) pa_nil))) (pv 6)))) pss_nil)
    (pss_cons (ps_if (pt_cmpR op_eq (pv 3) pe_int (nomark _)) (pss_one (ps_ret (pe_op op_cat (pe_op op_cat (pv 5) (pe_lst (pa_cons (pe_ix (r := rIxL K) ix_list (pe_lst (pa_cons pe_str (pa_cons pe_str (pa_cons pe_str (pa_cons pe_str (pa_cons pe_str (pa_cons pe_str (pa_cons pe_str (pa_cons pe_str pa_nil))))))))) (pe_call G_law_draw hr (by rfl) D_law_draw.g D_law_draw.F.kp D_law_draw.b .nil pass0 (pa_cons (pv 0) (pa_cons pe_int pa_nil))) (fun _ _ => rfl)) pa_nil))) (pv 6)))) pss_nil)
    (pss_cons (ps_if (pt_cmpR op_eq (pv 3) pe_int (nomark _)) (pss_one (ps_ret (pe_op op_cat (pe_op op_cat (pv 5) (pe_lst (pa_cons (pe_ix (r := rIxL K) ix_list (pv 1) (pe_call G_law_draw hr (by rfl) D_law_draw.g D_law_draw.F.kp D_law_draw.b .nil pass0 (pa_cons (pv 0) (pa_cons (pe_callB (r := rLenQ K) call_lenQ (by rfl) T.b_len PySem.boot_len (pa_cons (pv 1) pa_nil)) pa_nil))) (fun _ _ => rfl)) pa_nil))) (pv 6)))) pss_nil)
    (pss_cons (ps_if (pt_cmpR op_eq (pv 3) pe_int (nomark _)) (pss_one (ps_ret (pe_op op_cat (pv 1) (pe_lst (pa_cons pe_str (pa_cons (pe_op op_mulS pe_str pe_int) pa_nil)))))) pss_nil)
    (pss_cons (ps_if (pt_cmpR op_eq (pv 3) pe_int (nomark _)) (pss_one (ps_ret (pe_op op_cat (pv 1) (pe_lst (pa_cons pe_str (pa_cons pe_str pa_nil)))))) pss_nil)
    (pss_cons (ps_if (pt_cmpR op_eq (pv 3) pe_int (nomark _)) (pss_one (ps_ret (pe_op op_cat (pe_op op_cat (pv 5) (pe_lst (pa_cons (pe_op op_addZ (pv 4) (pe_ix (r := rIxL K) ix_list (pe_lst (pa_cons pe_str (pa_cons pe_str (pa_cons pe_str (pa_cons pe_str pa_nil))))) (pe_call G_law_draw hr (by rfl) D_law_draw.g D_law_draw.F.kp D_law_draw.b .nil pass0 (pa_cons (pv 0) (pa_cons pe_int pa_nil))) (fun _ _ => rfl))) pa_nil))) (pv 6)))) pss_nil)
    (pss_cons (ps_if (pt_cmpR op_eq (pv 3) pe_int (nomark _)) (pss_one (ps_ret (pe_op op_cat (pe_lst (pa_cons (pe_ix (r := rIxL K) ix_list (pe_lst (pa_cons pe_str (pa_cons pe_str pa_nil))) (pe_call G_law_draw hr (by rfl) D_law_draw.g D_law_draw.F.kp D_law_draw.b .nil pass0 (pa_cons (pv 0) (pa_cons pe_int pa_nil))) (fun _ _ => rfl)) pa_nil)) (pe_slice sl_list (pv 1) (po_some pe_int) po_none)))) pss_nil)
    (pss_one (ps_ret (pe_op op_cat (pv 1) (pe_lst (pa_cons pe_str pa_nil)))))))))))))))))))))))), ?_⟩
    walk_at "rt"
    refine slT hL (by rw [List.length_map]; omega) fun H1 l1 S1 nl1 hl1 => ?_
    rw [← List.map_take] at hl1
    have hL1 := S1 _ _ hL
    have n1b := B.ne nl1
    walk_at "rt"
    have ek : ((k : Int) + 1) = ((k + 1 : Nat) : Int) := by omega
    rw [ek]
    refine slF hL1 (by rw [List.length_map]; omega) fun H2 l2 S2 nl2 hl2 => ?_
    rw [← List.map_drop] at hl2
    have n2b := (B.same S1).ne nl2
    have hb := S2 _ _ hl1
    have S02 := S1.trans S2
    have w02 : Wd c ns b H H2 := Wd.ofSame B S02
    have B2 := w02.b1
    generalize ws.take k = be at *
    generalize ws.drop (k + 1) = aft at *
    -- before + [..] + after
    have glue : ∀ (H3 : Hp) (ms : List (List Nat)) (lm : Addr) (n t : Nat) (R : VK), Wd c ns b H2 H3 → H3 lm = some (.lst (ms.map fun w => V.str (txt w))) → Wb n t ms → n ≤ 50 → t ≤ 5100 →
        (∀ x H4, rCat x (.ref l2) H4 Q → R x H4) → rCat (.ref l1) (.ref lm) H3 R := by
      intro H3 ms lm n t R w3 hm wm hn ht hR
      have hb3 := w3.lst n1b hb
      have ha3 := w3.lst n2b hl2
      have m1 := wm.n
      have b1 := bf.n
      have a1 := af.n
      refine rd_cat hb3 hm (by rw [List.length_map, List.length_map]; omega) fun l3 nl3 => ?_
      rw [← List.map_append]
      obtain ⟨H4, eH4, S4, h4⟩ := new_gen (.lst ((be ++ ms).map fun w => V.str (txt w))) nl3
      rw [← eH4]
      have ha4 := S4 _ _ ha3
      refine hR _ _ ?_
      refine rd_cat h4 ha4 (by rw [List.length_map, List.length_map, List.length_append]; omega) fun l5 nl5 => ?_
      rw [← List.map_append]
      obtain ⟨H5, eH5, S5, h5⟩ := new_gen (.lst (((be ++ ms) ++ aft).map fun w => V.str (txt w))) nl5
      rw [← eH5]
      exact q H5 l5 _ (((w02.trans w3).same S4).same S5) h5 (((bf.app wm).app af).mono (by omega) (by omega))
    have hL2 := S2 _ _ hL1
    -- words + [..]
    have tail : ∀ (H3 : Hp) (ms : List (List Nat)) (lm : Addr) (n t : Nat), Wd c ns b H2 H3 → H3 lm = some (.lst (ms.map fun w => V.str (txt w))) → Wb n t ms → n ≤ 50 → t ≤ 5100 → rCat (.ref l) (.ref lm) H3 Q := by
      intro H3 ms lm n t w3 hm wm hn ht
      have hb3 := w3.lst nlb hL2
      have m1 := wm.n
      refine rd_cat hb3 hm (by rw [List.length_map, List.length_map]; omega) fun l3 nl3 => ?_
      rw [← List.map_append]
      obtain ⟨H4, eH4, S4, h4⟩ := new_gen (.lst ((ws ++ ms).map fun w => V.str (txt w))) nl3
      rw [← eH4]
      exact q H4 l3 _ ((w02.trans w3).same S4) h4 ((wb.app wm).mono (by omega) (by omega))
    have w1 : Wb 1 50 [w] := Wb.one hwl hw
    have w0 : Wb 1 0 [([] : List Nat)] := Wb.one (Nat.le_refl _) fun c h => absurd h List.not_mem_nil
    have app_c : ∀ (x y : List Nat), (∀ c ∈ x, c < 128) → (∀ c ∈ y, c < 128) → ∀ c ∈ x ++ y, c < 128 := fun x y hx hy c h => (List.mem_append.mp h).elim (hx c) (hy c)
    have num_c : ∀ n : Nat, ∀ c ∈ TL.numL n, c < 128 := fun n c h => by have := TL.numL_digits n c h; omega
    -- an item drawn out of a written list
    have pick : ∀ (H3 : Hp) (pre : List (List Nat)) (m : Nat) (lm : Addr) (R : VK), Wd c ns b H2 H3 → H3 lm = none → pre.length = m → 0 < m → m < 1000 → (∀ H4 w', Wd c ns b H2 H4 → w' ∈ pre → R (.str (txt w')) H4) →
        sp_law_draw K [.ref b, .int m] (upd H3 lm (.lst (pre.map fun w => V.str (txt w)))) (fun y H4 => rIxL K (.ref lm) y H4 R) E0 := by
      intro H3 pre m lm R w3 nlm el m0 m1 hR
      obtain ⟨H4, eH4, S4, h4⟩ := new_gen (.lst (pre.map fun w => V.str (txt w))) nlm
      rw [← eH4]
      refine ⟨c, b, ns, m, rfl, w3.b1.same S4, by omega, by omega, fun H5 d w5 d0 d1 => ?_⟩
      have h5 := w5.lst (w3.b1.ne nlm) h4
      obtain ⟨v, ev, gv, mv⟩ := atI_int (xs := pre.map fun w => V.str (txt w)) d0 (by rw [List.length_map, el]; exact d1)
      obtain ⟨w', hw', rfl⟩ := List.mem_map.mp mv
      exact rd_ixM h5 ev (hR H5 w' ((w3.same S4).trans w5) hw')
    walk_at "rt"
    -- 3
    refine ite2 (fun z => ?_) (fun z => ?_)
    · walk_at "rt"
      refine ⟨len1000 (by simp), fun lm nlm => ?_⟩
      refine glue _ [[], w] lm 2 50 _ ((Wd.refl B2).new nlm) upd_same ((w0.app w1).mono (by omega) (by omega)) (by omega) (by omega) fun x H4 y => ?_
      walk_at "rt"
      exact y
    walk_at "rt"
    -- 4
    refine ite2 (fun z => ?_) (fun z => ?_)
    · walk_at "rt"
      refine ⟨len1000 (by simp), fun lm nlm => ?_⟩
      refine glue _ [w, w] lm 2 100 _ ((Wd.refl B2).new nlm) upd_same ((w1.app w1).mono (by omega) (by omega)) (by omega) (by omega) fun x H4 y => ?_
      walk_at "rt"
      exact y
    walk_at "rt"
    -- 5
    refine ite2 (fun z => ?_) (fun z => ?_)
    · walk_at "rt"
      have b1 := bf.n
      have a1 := af.n
      refine rd_cat hb hl2 (by rw [List.length_map, List.length_map]; omega) fun l3 nl3 => ?_
      rw [← List.map_append]
      obtain ⟨H4, eH4, S4, h4⟩ := new_gen (.lst ((be ++ aft).map fun w => V.str (txt w))) nl3
      rw [← eH4]
      exact q H4 l3 _ (w02.same S4) h4 ((bf.app af).mono (by omega) (by omega))
    walk_at "rt"
    -- 6
    refine ite2 (fun z => ?_) (fun z => ?_)
    · have b1 := bf.n
      have a1 := af.n
      walk_at "rt"
      refine rd_slL (SqL.of hl2) fun l3 nl3 => ?_
      have e1 : cutV (aft.map fun w => V.str (txt w)) none (some 1) = (aft.take 1).map fun w => V.str (txt w) := by
        unfold cutV
        rw [HT.sIx_none, show (some (1 : Int)) = some ((1 : Nat) : Int) from rfl, HT.sIx_nat, List.length_map, List.drop_zero, Nat.sub_zero, List.map_take]
        by_cases k1 : 1 ≤ aft.length
        · rw [Nat.min_eq_left k1]
        · rw [Nat.min_eq_right (by omega), List.take_of_length_le (by rw [List.length_map]; exact Nat.le_refl _), List.take_of_length_le (by rw [List.length_map]; omega)]
      rw [e1]
      obtain ⟨H3, eH3, S3, h3⟩ := new_gen (.lst ((aft.take 1).map fun w => V.str (txt w))) nl3
      rw [← eH3]
      have at1 := af.take 1
      have at1n := at1.n
      refine rd_cat (S3 _ _ hb) h3 (by rw [List.length_map, List.length_map]; omega) fun l4 nl4 => ?_
      rw [← List.map_append]
      obtain ⟨H4, eH4, S4, h4⟩ := new_gen (.lst ((be ++ aft.take 1).map fun w => V.str (txt w))) nl4
      rw [← eH4]
      walk_at "rt"
      refine ⟨len1000 (by simp), fun l5 nl5 => ?_⟩
      obtain ⟨H5, eH5, S5, h5⟩ := new_gen (.lst ([w].map fun w => V.str (txt w))) nl5
      show rCat (V.ref l4) (V.ref l5) (upd H4 l5 (.lst ([w].map fun w => V.str (txt w)))) _
      rw [← eH5]
      refine rd_cat (S5 _ _ h4) h5 (by rw [List.length_map, List.length_map, List.length_append]; simp only [List.length_cons, List.length_nil]; omega) fun l6 nl6 => ?_
      rw [← List.map_append]
      obtain ⟨H6, eH6, S6, h6⟩ := new_gen (.lst (((be ++ aft.take 1) ++ [w]).map fun w => V.str (txt w))) nl6
      rw [← eH6]
      have ha6 := S6 _ _ (S5 _ _ (S4 _ _ (S3 _ _ hl2)))
      walk_at "rt"
      refine rd_slL (SqL.of ha6) fun l7 nl7 => ?_
      have e2 : cutV (aft.map fun w => V.str (txt w)) (some 1) none = (aft.drop 1).map fun w => V.str (txt w) := by
        unfold cutV
        rw [HT.sIx_none, show (some (1 : Int)) = some ((1 : Nat) : Int) from rfl, HT.sIx_nat, List.length_map, List.map_drop]
        by_cases k1 : 1 ≤ aft.length
        · rw [Nat.min_eq_left k1]
          exact List.take_of_length_le (by rw [List.length_drop, List.length_map]; exact Nat.le_refl _)
        · have e0 : aft = [] := List.length_eq_zero_iff.mp (by omega)
          rw [e0]
          rfl
      rw [e2]
      obtain ⟨H7, eH7, S7, h7⟩ := new_gen (.lst ((aft.drop 1).map fun w => V.str (txt w))) nl7
      rw [← eH7]
      have ad1 := af.drop 1
      have ad1n := ad1.n
      refine rd_cat (S7 _ _ h6) h7 (by rw [List.length_map, List.length_map, List.length_append, List.length_append]; simp only [List.length_cons, List.length_nil]; omega) fun l8 nl8 => ?_
      rw [← List.map_append]
      obtain ⟨H8, eH8, S8, h8⟩ := new_gen (.lst ((((be ++ aft.take 1) ++ [w]) ++ aft.drop 1).map fun w => V.str (txt w))) nl8
      rw [← eH8]
      refine q H8 l8 _ (w02.same ((((S3.trans S4).trans S5).trans (S6.trans S7)).trans S8)) h8 ?_
      have tt : (aft.take 1).flatten.length + (aft.drop 1).flatten.length = aft.flatten.length := by rw [← List.length_append, ← List.flatten_append, List.take_append_drop]
      exact (((bf.app at1).app w1).app ad1).mono (by omega) (by omega)
    walk_at "rt"
    -- 7
    refine ite2 (fun z => ?_) (fun z => ?_)
    · walk_at "rt"
      refine rd_addZ (a := [48]) (by simp; omega) ?_
      walk_at "rt"
      refine ⟨len1000 (by simp), fun lm nlm => ?_⟩
      refine glue _ [[48] ++ w] lm 1 60 _ ((Wd.refl B2).new nlm) upd_same (Wb.one (by simp; omega) (app_c _ _ (by decide) hw)) (by omega) (by omega) fun x H4 y => ?_
      walk_at "rt"
      exact y
    walk_at "rt"
    -- 8
    refine ite2 (fun z => ?_) (fun z => ?_)
    · walk_at "rt"
      refine ⟨len1000 (by simp), fun lm nlm => ?_⟩
      walk_at "rt"
      refine pick H2 [[45], [43], [48, 48], [9], [95]] 5 lm _ (Wd.refl B2) nlm rfl (by decide) (by decide) fun H4 w' w4 mw => ?_
      have wc : ∀ w' ∈ [[45], [43], [48, 48], [9], [95]], w'.length ≤ 2 ∧ ∀ c ∈ w', c < 128 := by decide
      obtain ⟨v1, v2⟩ := wc w' mw
      walk_at "rt"
      refine rd_addZ (by omega) ?_
      walk_at "rt"
      refine ⟨len1000 (by simp), fun ln nln => ?_⟩
      refine glue _ [w' ++ w] ln 1 60 _ (w4.new nln) upd_same (Wb.one (by rw [List.length_append]; omega) (app_c _ _ v2 hw)) (by omega) (by omega) fun x H5 y => ?_
      walk_at "rt"
      exact y
    walk_at "rt"
    -- 9
    refine ite2 (fun z => ?_) (fun z => ?_)
    · walk_at "rt"
      refine rd_M0 ?_
      walk_at "rt"
      refine rd_up hw (by omega) ?_
      walk_at "rt"
      refine ⟨len1000 (by simp), fun lm nlm => ?_⟩
      refine glue _ [w.map PyProof.Rows.up1] lm 1 60 _ ((Wd.refl B2).new nlm) upd_same (Wb.one (by rw [List.length_map]; omega) (up_small hw)) (by omega) (by omega) fun x H4 y => ?_
      walk_at "rt"
      exact y
    walk_at "rt"
    -- 10
    refine ite2 (fun z => ?_) (fun z => ?_)
    · walk_at "rt"
      refine ⟨len1000 (by simp), fun lm nlm => ?_⟩
      walk_at "rt"
      refine pick H2 [[49], [48]] 2 lm _ (Wd.refl B2) nlm rfl (by decide) (by decide) fun H4 w' w4 mw => ?_
      obtain ⟨x, rfl, hx⟩ : ∃ x, w' = [x] ∧ x < 128 := by
        simp only [List.mem_cons, List.not_mem_nil, or_false] at mw
        rcases mw with k | k
        · exact ⟨49, k, by decide⟩
        · exact ⟨48, k, by decide⟩
      walk_at "rt"
      refine rd_mulS (c := x) (n := 5000) (by decide) (by decide) ?_
      walk_at "rt"
      refine ⟨len1000 (by simp), fun ln nln => ?_⟩
      refine glue _ [List.replicate 5000 x] ln 1 5000 _ (w4.new nln) upd_same (Wb.one (by rw [List.length_replicate]; exact Nat.le_refl _) fun c h => by rw [List.eq_of_mem_replicate h]; exact hx) (by omega) (by omega) fun x H5 y => ?_
      walk_at "rt"
      exact y
    walk_at "rt"
    -- 11
    refine ite2 (fun z => ?_) (fun z => ?_)
    · walk_at "rt"
      refine ⟨c, b, ns, 100, rfl, B2, by decide, by decide, fun H3 d w3 d0 d1 => ?_⟩
      obtain ⟨n, hn⟩ : ∃ n : Nat, 12 + d = (n : Int) := ⟨(12 + d).toNat, by omega⟩
      walk_at "rt"
      rw [hn]
      refine rd_strN (by omega) ?_
      walk_at "rt"
      refine ⟨len1000 (by simp), fun lm nlm => ?_⟩
      walk_at "rt"
      refine pick H3 [TL.numL n, [49, 95, 49], [49, 95, 48]] 3 lm _ w3 nlm rfl (by decide) (by decide) fun H4 w' w4 mw => ?_
      have nl3 := TL.numL_len (n := n) (k := 3) (by decide) (by omega)
      have wc : w'.length ≤ 3 ∧ ∀ c ∈ w', c < 128 := by
        simp only [List.mem_cons, List.not_mem_nil, or_false] at mw
        rcases mw with k | k | k
        · rw [k]; exact ⟨nl3, num_c n⟩
        · rw [k]; decide
        · rw [k]; decide
      walk_at "rt"
      refine ⟨len1000 (by simp), fun ln nln => ?_⟩
      refine glue _ [w'] ln 1 60 _ (w4.new nln) upd_same (Wb.one (by omega) wc.2) (by omega) (by omega) fun x H5 y => ?_
      walk_at "rt"
      exact y
    walk_at "rt"
    -- 12
    refine ite2 (fun z => ?_) (fun z => ?_)
    · walk_at "rt"
      refine ⟨c, b, ns, 12, rfl, B2, by decide, by decide, fun H3 d w3 d0 d1 => ?_⟩
      obtain ⟨n, rfl⟩ : ∃ n : Nat, d = (n : Int) := ⟨d.toNat, by omega⟩
      walk_at "rt"
      refine rd_strN (by omega) ?_
      walk_at "rt"
      refine ⟨len1000 (by simp), fun lm nlm => ?_⟩
      have nl3 := TL.numL_len (n := n) (k := 3) (by decide) (by omega)
      refine glue _ [TL.numL n] lm 1 60 _ (w3.new nlm) upd_same (Wb.one (by omega) (num_c n)) (by omega) (by omega) fun x H5 y => ?_
      walk_at "rt"
      exact y
    walk_at "rt"
    -- 13
    refine ite2 (fun z => ?_) (fun z => ?_)
    · walk_at "rt"
      refine ⟨len1000 (by simp), fun lm nlm => ?_⟩
      walk_at "rt"
      refine pick H2 [wCopy, wMove, wClear, [115, 119, 97, 112], wArr, [45, 62], wIf, [42]] 8 lm _ (Wd.refl B2) nlm rfl (by decide) (by decide) fun H4 w' w4 mw => ?_
      have wc : ∀ w' ∈ [wCopy, wMove, wClear, [115, 119, 97, 112], wArr, [45, 62], wIf, [42]], w'.length ≤ 5 ∧ ∀ c ∈ w', c < 128 := by decide
      obtain ⟨v1, v2⟩ := wc w' mw
      walk_at "rt"
      refine ⟨len1000 (by simp), fun ln nln => ?_⟩
      refine glue _ [w'] ln 1 60 _ (w4.new nln) upd_same (Wb.one (by omega) v2) (by omega) (by omega) fun x H5 y => ?_
      walk_at "rt"
      exact y
    walk_at "rt"
    -- 14
    refine ite2 (fun z => ?_) (fun z => ?_)
    · walk_at "rt"
      refine ⟨c, b, ns, _, rfl, B2, by rw [List.length_map]; omega, by rw [List.length_map]; omega, fun H3 d w3 d0 d1 => ?_⟩
      have hL3 := w3.lst nlb hL2
      obtain ⟨v, ev, gv, mv⟩ := atI_int (xs := ws.map fun w => V.str (txt w)) d0 d1
      obtain ⟨w', hw', rfl⟩ := List.mem_map.mp mv
      walk_at "rt"
      refine ⟨len1000 (by simp), fun ln nln => ?_⟩
      refine glue _ [w'] ln 1 60 _ (w3.new nln) upd_same (Wb.one (by have := wb.len w' hw'; omega) (wb.c w' hw')) (by omega) (by omega) fun x H5 y => ?_
      walk_at "rt"
      exact y
    walk_at "rt"
    -- 15
    refine ite2 (fun z => ?_) (fun z => ?_)
    · walk_at "rt"
      refine rd_mulS (c := 45) (n := 13) (by decide) (by decide) ?_
      walk_at "rt"
      refine ⟨len1000 (by simp), fun lm nlm => ?_⟩
      exact tail _ [wIf, List.replicate 13 45] lm 2 60 ((Wd.refl B2).new nlm) upd_same ⟨by decide, by decide, by decide⟩ (by omega) (by omega)
    walk_at "rt"
    -- 16
    refine ite2 (fun z => ?_) (fun z => ?_)
    · walk_at "rt"
      refine ⟨len1000 (by simp), fun lm nlm => ?_⟩
      exact tail _ [wIf, []] lm 2 60 ((Wd.refl B2).new nlm) upd_same ⟨by decide, by decide, by decide⟩ (by omega) (by omega)
    walk_at "rt"
    -- 20
    refine ite2 (fun z => ?_) (fun z => ?_)
    · walk_at "rt"
      refine ⟨len1000 (by simp), fun lm nlm => ?_⟩
      walk_at "rt"
      refine pick H2 [[9], [95, 49], [46], [48]] 4 lm _ (Wd.refl B2) nlm rfl (by decide) (by decide) fun H4 w' w4 mw => ?_
      have wc : ∀ w' ∈ [[9], [95, 49], [46], [48]], w'.length ≤ 2 ∧ ∀ c ∈ w', c < 128 := by decide
      obtain ⟨v1, v2⟩ := wc w' mw
      walk_at "rt"
      refine rd_addZ (by omega) ?_
      walk_at "rt"
      refine ⟨len1000 (by simp), fun ln nln => ?_⟩
      refine glue _ [w ++ w'] ln 1 60 _ (w4.new nln) upd_same (Wb.one (by rw [List.length_append]; omega) (app_c _ _ hw v2)) (by omega) (by omega) fun x H5 y => ?_
      walk_at "rt"
      exact y
    walk_at "rt"
    -- 21
    refine ite2 (fun z => ?_) (fun z => ?_)
    · walk_at "rt"
      refine ⟨len1000 (by simp), fun lm nlm => ?_⟩
      walk_at "rt"
      refine pick H2 [wCopy, wMove] 2 lm _ (Wd.refl B2) nlm rfl (by decide) (by decide) fun H4 w' w4 mw => ?_
      have wc : ∀ w' ∈ [wCopy, wMove], w'.length ≤ 5 ∧ ∀ c ∈ w', c < 128 := by decide
      obtain ⟨v1, v2⟩ := wc w' mw
      walk_at "rt"
      refine ⟨len1000 (by simp), fun l3 nl3 => ?_⟩
      obtain ⟨H5, eH5, S5, h5⟩ := new_gen (.lst ([w'].map fun w => V.str (txt w))) nl3
      have eo : upd H4 l3 (.lst [V.str (txt w')]) = H5 := eH5.symm
      rw [eo]
      have w5 := w4.same S5
      have hL5 := w5.lst nlb hL2
      walk_at "rt"
      refine slF (k := 1) hL5 (by rw [List.length_map]; omega) fun H6 l6 S6 nl6 hl6 => ?_
      rw [← List.map_drop] at hl6
      have wd1 := wb.drop 1
      have wd1n := wd1.n
      refine rd_cat (S6 _ _ h5) hl6 (by rw [List.length_map, List.length_map]; simp only [List.length_cons, List.length_nil]; omega) fun l7 nl7 => ?_
      rw [← List.map_append]
      obtain ⟨H7, eH7, S7, h7⟩ := new_gen (.lst (([w'] ++ ws.drop 1).map fun w => V.str (txt w))) nl7
      rw [← eH7]
      exact q H7 l7 _ (((w02.trans w5).same S6).same S7) h7 (((Wb.one (t := 60) (by omega) v2).app wd1).mono (by omega) (by omega))
    walk_at "rt"
    refine ⟨len1000 (by simp), fun lm nlm => ?_⟩
    exact tail _ [[]] lm 1 60 ((Wd.refl B2).new nlm) upd_same ⟨by decide, by decide, by decide⟩ (by omega) (by omega)
def sp_law_char (_K : PySem.W.Frag) : Sp := fun vs H Q _ => ∃ (c b : Addr) (ns : List Int), vs = [.ref b] ∧ Bag c ns b H ∧ ∀ H' x, Wd c ns b H H' → x < 128 → Q (.str (one x)) H'
def chA : List Nat := [32, 33, 34, 35, 36, 38, 39, 40, 41, 42, 43, 44, 45, 46, 47, 48, 49, 50, 51, 52, 53, 54, 55, 56, 57, 58, 59, 60, 61, 62, 63, 64, 65, 66, 67, 68, 69, 70, 71, 72, 73, 74, 75, 76, 77, 78, 79, 80, 81, 82, 83, 84, 85, 86, 87, 88, 89, 90, 91, 92, 93, 94, 95, 96]
def chB : List Nat := [97, 98, 99, 100, 101, 102, 103, 104, 105, 106, 107, 108, 109, 110, 111, 112, 113, 114, 115, 116, 117, 118, 119, 120, 121, 122, 123, 124, 125, 126, 10, 9]
set_option maxHeartbeats 4000000 in
theorem ok_law_char (T : Top K mg) {f : Addr} {fd : FuncData} (D : Def K mg "_law_char" s_law_char ["bag"] f fd) : FnOk P w K mg base CX0 2 f fd ["bag"] (sp_law_char K) := by
  obtain ⟨f_law_draw, fd_law_draw, D_law_draw⟩ := T.d__law_draw
  have G_law_draw : FnOk P w K mg base CX0 1 f_law_draw fd_law_draw ["bag", "many"] (sp_law_draw K) := ok_law_draw T D_law_draw
  refine D.F.ok sc_law_char (fun vs H Q E h => ?_) (fun cdv A outer s H vs Q E hr h => ?_)
  · obtain ⟨c, b, ns, rfl, _⟩ := h
    rfl
  · obtain ⟨c, b, ns, rfl, B, q⟩ := h
    have hl : (chA ++ chB).length = 96 := by decide
    have hc : ∀ x ∈ chA ++ chB, x < 128 := by decide
    have hsz : (txt (chA ++ chB)).length ≤ sizeLine := by rw [txt_len]; exact big_line (by omega)
    refine ⟨_, (pss_cons (ps_set (i := 1) sc_law_char.nd rfl (.inl rfl) pe_str)
    (pss_cons (ps_set (i := 1) sc_law_char.nd rfl (.inl rfl) (pe_op op_addZ (pv 1) pe_str))
    (pss_one (ps_ret (pe_ix ix_str (pv 1) (pe_call G_law_draw hr (by rfl) D_law_draw.g D_law_draw.F.kp D_law_draw.b .nil pass0 (pa_cons (pv 0) (pa_cons pe_int pa_nil))) (fun _ _ => rfl)))))), ?_⟩
    walk_at "rt"
    refine rd_addZ (a := chA) (b := chB) (by decide) ?_
    walk_at "rt"
    refine ⟨c, b, ns, 96, rfl, B, by decide, by decide, fun H1 d w1 d0 d1 => ?_⟩
    obtain ⟨x, ex, _, mx⟩ := atI_int (xs := chA ++ chB) d0 (by rw [hl]; exact d1)
    have ex2 : atI (txt (chA ++ chB)).cps.toList d = some x := ex
    walk_at "rt"
    exact q _ x w1 (hc x mx)
def sp_law_bent (_K : PySem.W.Frag) : Sp := fun vs H Q _ => ∃ (c b : Addr) (ns : List Int) (cs : List Nat), vs = [.ref b, .str (txt cs)] ∧ Bag c ns b H ∧ cs.length ≤ 45 ∧ (∀ x ∈ cs, x < 128) ∧ ∀ H' cs', Wd c ns b H H' → cs'.length ≤ 5700 → (∀ x ∈ cs', x < 128) → Q (.str (txt cs')) H'
set_option maxHeartbeats 4000000 in
theorem ok_law_bent (T : Top K mg) {f : Addr} {fd : FuncData} (D : Def K mg "_law_bent" s_law_bent ["bag", "text"] f fd) : FnOk P w K mg base CX0 3 f fd ["bag", "text"] (sp_law_bent K) := by
  obtain ⟨f_law_draw, fd_law_draw, D_law_draw⟩ := T.d__law_draw
  have G_law_draw : FnOk P w K mg base CX0 1 f_law_draw fd_law_draw ["bag", "many"] (sp_law_draw K) := ok_law_draw T D_law_draw
  obtain ⟨f_law_bent_word, fd_law_bent_word, D_law_bent_word⟩ := T.d__law_bent_word
  have G_law_bent_word : FnOk P w K mg base CX0 2 f_law_bent_word fd_law_bent_word ["bag", "words", "spot", "way"] (sp_law_bent_word K) := ok_law_bent_word T D_law_bent_word
  obtain ⟨f_law_char, fd_law_char, D_law_char⟩ := T.d__law_char
  have G_law_char : FnOk P w K mg base CX0 2 f_law_char fd_law_char ["bag"] (sp_law_char K) := ok_law_char T D_law_char
  refine D.F.ok sc_law_bent (fun vs H Q E h => ?_) (fun cdv A outer s H vs Q E hr h => ?_)
  · obtain ⟨c, b, ns, cs, rfl, _⟩ := h
    rfl
  · obtain ⟨c, b, ns, cs, rfl, B, cl, cc, q⟩ := h
    have hz : (txt cs).length ≤ sizeLine := by rw [txt_len]; exact big_line (by omega)
    have tc : ∀ k, ∀ x ∈ cs.take k, x < 128 := fun k x h => cc x (List.mem_of_mem_take h)
    have dc : ∀ k, ∀ x ∈ cs.drop k, x < 128 := fun k x h => cc x (List.mem_of_mem_drop h)
    have tl : ∀ k, (cs.take k).length ≤ 45 := fun k => by rw [List.length_take]; omega
    have dl : ∀ k, (cs.drop k).length ≤ 45 := fun k => by rw [List.length_drop]; omega
    have app_c : ∀ (x y : List Nat), (∀ c ∈ x, c < 128) → (∀ c ∈ y, c < 128) → ∀ c ∈ x ++ y, c < 128 := fun x y hx hy c h => (List.mem_append.mp h).elim (hx c) (hy c)
    refine ⟨_, (pss_cons (ps_set (i := 2) sc_law_bent.nd rfl (.inl rfl) (pe_call G_law_draw (hr.mono (by decide)) (by rfl) D_law_draw.g D_law_draw.F.kp D_law_draw.b .nil pass0 (pa_cons (pv 0) (pa_cons pe_int pa_nil))))
    (pss_cons (ps_set (i := 3) sc_law_bent.nd rfl (.inl rfl) (pe_call G_law_draw (hr.mono (by decide)) (by rfl) D_law_draw.g D_law_draw.F.kp D_law_draw.b .nil pass0 (pa_cons (pv 0) (pa_cons (pe_op op_add (pe_callB call_lenZ (by rfl) T.b_len PySem.boot_len (pa_cons (pv 1) pa_nil)) pe_int) pa_nil))))
    (pss_cons (ps_if (pt_cmpR op_eq (pv 2) pe_int (nomark _)) (pss_one (ps_ret (pe_op op_addZ (pe_op op_addZ (pe_slice sl_str (pv 1) po_none (po_some (pv 3))) (pe_call G_law_char hr (by rfl) D_law_char.g D_law_char.F.kp D_law_char.b .nil pass0 (pa_cons (pv 0) pa_nil))) (pe_slice sl_str (pv 1) (po_some (pv 3)) po_none)))) pss_nil)
    (pss_cons (ps_if (pt_cmpR op_eq (pv 2) pe_int (nomark _)) (pss_one (ps_ret (pe_op op_addZ (pe_op op_addZ (pe_slice sl_str (pv 1) po_none (po_some (pv 3))) (pe_call G_law_char hr (by rfl) D_law_char.g D_law_char.F.kp D_law_char.b .nil pass0 (pa_cons (pv 0) pa_nil))) (pe_slice sl_str (pv 1) (po_some (pe_op op_add (pv 3) pe_int)) po_none)))) pss_nil)
    (pss_cons (ps_if (pt_cmpR op_eq (pv 2) pe_int (nomark _)) (pss_one (ps_ret (pe_op op_addZ (pe_slice sl_str (pv 1) po_none (po_some (pv 3))) (pe_slice sl_str (pv 1) (po_some (pe_op op_add (pv 3) pe_int)) po_none)))) pss_nil)
    (pss_cons (ps_set (i := 4) sc_law_bent.nd rfl (.inl rfl) (pe_splitQ (pv 1) pe_str))
    (pss_cons (ps_set (i := 3) sc_law_bent.nd rfl (.inl rfl) (pe_call G_law_draw (hr.mono (by decide)) (by rfl) D_law_draw.g D_law_draw.F.kp D_law_draw.b .nil pass0 (pa_cons (pv 0) (pa_cons (pe_callB (r := rLenQ K) call_lenQ (by rfl) T.b_len PySem.boot_len (pa_cons (pv 4) pa_nil)) pa_nil))))
    (pss_cons (ps_if (pt_cmpR op_eq (pv 2) pe_int (nomark _)) (pss_one (ps_ret (pe_op op_addZ (pe_op op_addZ (Rv.pe_joinT pe_str (pe_slice sl_list (pv 4) po_none (po_some (pv 3)))) (pe_ix (r := rIxL K) ix_list (pe_lst (pa_cons pe_str (pa_cons pe_str (pa_cons pe_str pa_nil)))) (pe_call G_law_draw (hr.mono (by decide)) (by rfl) D_law_draw.g D_law_draw.F.kp D_law_draw.b .nil pass0 (pa_cons (pv 0) (pa_cons pe_int pa_nil))) (fun _ _ => rfl))) (Rv.pe_joinT pe_str (pe_slice sl_list (pv 4) (po_some (pv 3)) po_none))))) pss_nil)
    (pss_cons (ps_if (pt_cmpR op_eq (pv 2) pe_int (nomark _)) (pss_one (ps_ret (pe_ix (r := rIxL K) ix_list (pe_lst (pa_cons pe_str (pa_cons (pe_op op_addZ (pv 1) pe_str) (pa_cons (pe_op op_addZ pe_str (pv 1)) pa_nil)))) (pe_call G_law_draw (hr.mono (by decide)) (by rfl) D_law_draw.g D_law_draw.F.kp D_law_draw.b .nil pass0 (pa_cons (pv 0) (pa_cons pe_int pa_nil))) (fun _ _ => rfl)))) pss_nil)
    (pss_one (ps_ret (Rv.pe_joinT pe_str (pe_call G_law_bent_word hr (by rfl) D_law_bent_word.g D_law_bent_word.F.kp D_law_bent_word.b .nil pass0 (pa_cons (pv 0) (pa_cons (pv 4) (pa_cons (pv 3) (pa_cons (pv 2) pa_nil))))))))))))))))), ?_⟩
    walk_at "rt"
    refine ⟨c, b, ns, 22, rfl, B, by decide, by decide, fun H1 way w1 _ _ => ?_⟩
    walk_at "rt"
    refine ⟨c, b, ns, _, rfl, w1.b1, by omega, by rw [txt_len]; omega, fun H2 sp w2 s0 s1 => ?_⟩
    obtain ⟨k, rfl⟩ : ∃ k : Nat, sp = (k : Int) := ⟨sp.toNat, by omega⟩
    have ek : ((k : Int) + 1) = ((k + 1 : Nat) : Int) := by omega
    have w02 := w1.trans w2
    walk_at "rt"
    -- 0
    refine ite2 (fun z => ?_) (fun z => ?_)
    · walk_at "rt"
      refine rd_slS (by omega) ?_
      rw [cutS_to]
      walk_at "rt"
      refine ⟨c, b, ns, rfl, w02.b1, fun H3 x w3 hx => ?_⟩
      refine rd_addZ (b := [x]) (by have := tl k; simp only [List.length_cons, List.length_nil]; omega) ?_
      walk_at "rt"
      refine rd_slS (by omega) ?_
      rw [cutS_from]
      refine rd_addZ (by have := tl k; have := dl k; rw [List.length_append]; simp only [List.length_cons, List.length_nil]; omega) ?_
      refine q _ _ (w02.trans w3) (by have := tl k; have := dl k; rw [List.length_append, List.length_append]; simp only [List.length_cons, List.length_nil]; omega) (app_c _ _ (app_c _ _ (tc k) fun c h => by rw [List.mem_singleton.mp h]; exact hx) (dc k))
    walk_at "rt"
    -- 1
    refine ite2 (fun z => ?_) (fun z => ?_)
    · walk_at "rt"
      refine rd_slS (by omega) ?_
      rw [cutS_to]
      walk_at "rt"
      refine ⟨c, b, ns, rfl, w02.b1, fun H3 x w3 hx => ?_⟩
      refine rd_addZ (b := [x]) (by have := tl k; simp only [List.length_cons, List.length_nil]; omega) ?_
      walk_at "rt"
      rw [ek]
      refine rd_slS (by omega) ?_
      rw [cutS_from]
      refine rd_addZ (by have := tl k; have := dl (k + 1); rw [List.length_append]; simp only [List.length_cons, List.length_nil]; omega) ?_
      refine q _ _ (w02.trans w3) (by have := tl k; have := dl (k + 1); rw [List.length_append, List.length_append]; simp only [List.length_cons, List.length_nil]; omega) (app_c _ _ (app_c _ _ (tc k) fun c h => by rw [List.mem_singleton.mp h]; exact hx) (dc (k + 1)))
    walk_at "rt"
    -- 2
    refine ite2 (fun z => ?_) (fun z => ?_)
    · walk_at "rt"
      refine rd_slS (by omega) ?_
      rw [cutS_to]
      walk_at "rt"
      rw [ek]
      refine rd_slS (by omega) ?_
      rw [cutS_from]
      refine rd_addZ (by have := tl k; have := dl (k + 1); omega) ?_
      refine q _ _ w02 (by have := tl k; have := dl (k + 1); rw [List.length_append]; omega) (app_c _ _ (tc k) (dc (k + 1)))
    walk_at "rt"
    refine rd_split (c := 32) (by decide) (by omega) fun l nl => ?_
    have wb0 := spl_wb (s := 32) cc
    have wb : Wb 50 50 (TL.spl [32] 0 [] cs) := wb0.mono (by omega) (by omega)
    have wne : TL.spl [32] 0 [] cs ≠ [] := spl_ne [32] cs
    clear wb0
    generalize TL.spl [32] 0 [] cs = ws at *
    have wn := wb.n
    have wp : 0 < ws.length := List.length_pos_iff.mpr wne
    obtain ⟨H3, eH3, S3, hL⟩ := new_gen (.lst (ws.map fun w => V.str (txt w))) nl
    rw [← eH3]
    have nlb := w02.b1.ne nl
    have w03 := w02.same S3
    walk_at "rt"
    refine ⟨c, b, ns, _, rfl, w03.b1, by rw [List.length_map]; omega, by rw [List.length_map]; omega, fun H4 sp w4 s0 s1 => ?_⟩
    rw [List.length_map] at s1
    obtain ⟨k, rfl⟩ : ∃ k : Nat, sp = (k : Int) := ⟨sp.toNat, by omega⟩
    have hk : k < ws.length := by omega
    have hL4 := w4.lst nlb hL
    have w04 := w03.trans w4
    have B4 := w04.b1
    walk_at "rt"
    -- 18
    refine ite2 (fun z => ?_) (fun z => ?_)
    · have bt := wb.take k
      have bd := wb.drop k
      have t1 := bt.t
      have t2 := bd.t
      have n1 := bt.n
      have n2 := bd.n
      have j1 := join_le 32 (ws.take k)
      have j2 := join_le 32 (ws.drop k)
      have jc : ∀ l : List (List Nat), (∀ w ∈ l, ∀ c ∈ w, c < 128) → ∀ c ∈ TL.joinL [32] l, c < 128 := fun l h c hc => by
        rcases join_mem hc with e | ⟨w, hw, hx⟩
        · rw [e]; decide
        · exact h w hw c hx
      walk_at "rt"
      refine slT hL4 (by rw [List.length_map]; omega) fun H5 l5 S5 nl5 hl5 => ?_
      rw [← List.map_take] at hl5
      refine rd_joinS (s := 32) hl5 (by omega) ?_
      walk_at "rt"
      refine ⟨len1000 (by simp), fun lm nlm => ?_⟩
      obtain ⟨H6, eH6, S6, hm⟩ := new_gen (.lst ([[9], [10], [32, 32]].map fun w => V.str (txt w))) nlm
      have eo : upd H5 lm (.lst [V.str (Str.ofString "\t"), V.str (Str.ofString "\n"), V.str (Str.ofString "  ")]) = H6 := eH6.symm
      rw [eo]
      have w06 := (w04.same S5).same S6
      walk_at "rt"
      refine ⟨c, b, ns, 3, rfl, w06.b1, by decide, by decide, fun H7 d w7 d0 d1 => ?_⟩
      have hm7 := w7.lst ((w04.same S5).b1.ne nlm) hm
      obtain ⟨v, ev, gv, mv⟩ := atI_int (xs := [[9], [10], [32, 32]].map fun w => V.str (txt w)) d0 d1
      obtain ⟨w', hw', rfl⟩ := List.mem_map.mp mv
      have wc : ∀ w' ∈ [[9], [10], [32, 32]], w'.length ≤ 2 ∧ ∀ c ∈ w', c < 128 := by decide
      obtain ⟨v1, v2⟩ := wc w' hw'
      have hL7 := w7.lst nlb (S6 _ _ (S5 _ _ hL4))
      walk_at "rt"
      refine rd_addZ (by omega) ?_
      walk_at "rt"
      refine slF hL7 (by rw [List.length_map]; omega) fun H8 l8 S8 nl8 hl8 => ?_
      rw [← List.map_drop] at hl8
      refine rd_joinS (s := 32) hl8 (by omega) ?_
      refine rd_addZ (by rw [List.length_append]; omega) ?_
      refine q _ _ ((w06.trans w7).same S8) (by rw [List.length_append, List.length_append]; omega) (app_c _ _ (app_c _ _ (jc _ bt.c) v2) (jc _ bd.c))
    walk_at "rt"
    -- 19
    refine ite2 (fun z => ?_) (fun z => ?_)
    · walk_at "rt"
      refine rd_addZ (b := [10]) (by simp only [List.length_cons, List.length_nil]; omega) ?_
      walk_at "rt"
      refine rd_addZ (a := [10]) (by simp only [List.length_cons, List.length_nil]; omega) ?_
      walk_at "rt"
      refine ⟨len1000 (by simp), fun lm nlm => ?_⟩
      obtain ⟨H6, eH6, S6, hm⟩ := new_gen (.lst ([[], cs ++ [10], [10] ++ cs].map fun w => V.str (txt w))) nlm
      have eo : upd H4 lm (.lst [V.str (Str.ofString ""), V.str (txt (cs ++ [10])), V.str (txt ([10] ++ cs))]) = H6 := eH6.symm
      rw [eo]
      have w06 := w04.same S6
      walk_at "rt"
      refine ⟨c, b, ns, 3, rfl, w06.b1, by decide, by decide, fun H7 d w7 d0 d1 => ?_⟩
      have hm7 := w7.lst (B4.ne nlm) hm
      obtain ⟨v, ev, gv, mv⟩ := atI_int (xs := [[], cs ++ [10], [10] ++ cs].map fun w => V.str (txt w)) d0 d1
      obtain ⟨w', hw', rfl⟩ := List.mem_map.mp mv
      have wc : w'.length ≤ 50 ∧ ∀ c ∈ w', c < 128 := by
        simp only [List.mem_cons, List.not_mem_nil, or_false] at hw'
        rcases hw' with k | k | k
        · rw [k]; exact ⟨by decide, fun c h => absurd h List.not_mem_nil⟩
        · rw [k]; exact ⟨by rw [List.length_append]; simp only [List.length_cons, List.length_nil]; omega, app_c _ _ cc (by decide)⟩
        · rw [k]; exact ⟨by rw [List.length_append]; simp only [List.length_cons, List.length_nil]; omega, app_c _ _ (by decide) cc⟩
      walk_at "rt"
      exact q _ _ (w06.trans w7) (by omega) wc.2
    walk_at "rt"
    refine ⟨c, b, l, ns, ws, k, way, rfl, B4, hL4, nlb, wb, hk, fun H5 D ws' w5 hD wb' => ?_⟩
    have t1 := wb'.t
    have n1 := wb'.n
    have j1 := join_le 32 ws'
    refine rd_joinS (s := 32) hD (by omega) ?_
    refine q _ _ (w04.trans w5) (by omega) fun c hc => ?_
    rcases join_mem hc with e | ⟨w, hw, hx⟩
    · rw [e]; decide
    · exact wb'.c w hw c hx
theorem flat_set : ∀ (l : List (List Nat)) (i : Nat) (x : List Nat), (l.set i x).flatten.length ≤ l.flatten.length + x.length
  | [], i, x => by simp
  | y :: r, 0, x => by
    show ((x :: r).flatten).length ≤ _
    rw [List.flatten_cons, List.flatten_cons, List.length_append, List.length_append]
    omega
  | y :: r, i + 1, x => by
    have := flat_set r i x
    show ((y :: r.set i x).flatten).length ≤ _
    rw [List.flatten_cons, List.flatten_cons, List.length_append, List.length_append]
    omega
theorem flat_mem {c : Nat} {l : List (List Nat)} (h : c ∈ l.flatten) : ∃ w ∈ l, c ∈ w := by
  obtain ⟨w, hw, hc⟩ := List.mem_flatten.mp h
  exact ⟨w, hw, hc⟩
/-- lines of text, none of them long -/
structure Tx (n t : Nat) (ts : List (List Nat)) : Prop where
  n : ts.length = n
  t : ts.flatten.length ≤ t
  c : ∀ w ∈ ts, ∀ c ∈ w, c < 128
def splaw (K : PySem.W.Frag) : Sp := fun vs H Q _ => ∃ (a : Addr) (ns : List Int), vs = [.ref a] ∧ SqL K H a (ns.map V.int) ∧ ns.length ≤ 63 ∧ ∀ H', Q (.bl true) H'
set_option maxHeartbeats 4000000 in
theorem oklaw (T : Top K mg) {f : Addr} {fd : FuncData} (D : Def K mg "law" slaw ["script"] f fd) : FnOk P w K mg base CX0 6 f fd ["script"] (splaw K) := by
  obtain ⟨f_law_bag, fd_law_bag, D_law_bag⟩ := T.d__law_bag
  have G_law_bag : FnOk P w K mg base CX0 1 f_law_bag fd_law_bag ["script"] (sp_law_bag K) := ok_law_bag T D_law_bag
  obtain ⟨f_law_draw, fd_law_draw, D_law_draw⟩ := T.d__law_draw
  have G_law_draw : FnOk P w K mg base CX0 1 f_law_draw fd_law_draw ["bag", "many"] (sp_law_draw K) := ok_law_draw T D_law_draw
  obtain ⟨f_law_ended, fd_law_ended, D_law_ended⟩ := T.d__law_ended
  have G_law_ended : FnOk P w K mg base CX0 3 f_law_ended fd_law_ended ["bag", "text"] (sp_law_ended K) := ok_law_ended T D_law_ended
  obtain ⟨f_law_read, fd_law_read, D_law_read⟩ := T.d__law_read
  have G_law_read : FnOk P w K mg base CX0 3 f_law_read fd_law_read ["text"] (sp_law_read K) := ok_law_read T D_law_read
  obtain ⟨f_law_told, fd_law_told, D_law_told⟩ := T.d__law_told
  have G_law_told : FnOk P w K mg base CX0 4 f_law_told fd_law_told ["text"] (sp_law_told K) := ok_law_told T D_law_told
  obtain ⟨f_law_asked, fd_law_asked, D_law_asked⟩ := T.d__law_asked
  have G_law_asked : FnOk P w K mg base CX0 5 f_law_asked fd_law_asked ["text"] (sp_law_asked K) := ok_law_asked T D_law_asked
  obtain ⟨f_law_written, fd_law_written, D_law_written⟩ := T.d__law_written
  have G_law_written : FnOk P w K mg base CX0 1 f_law_written fd_law_written ["row"] (sp_law_written K) := ok_law_written T D_law_written
  obtain ⟨f_law_row, fd_law_row, D_law_row⟩ := T.d__law_row
  have G_law_row : FnOk P w K mg base CX0 2 f_law_row fd_law_row ["bag", "n", "wide"] (sp_law_row K) := ok_law_row T D_law_row
  obtain ⟨f_law_same_rows, fd_law_same_rows, D_law_same_rows⟩ := T.d__law_same_rows
  have G_law_same_rows : FnOk P w K mg base CX0 2 f_law_same_rows fd_law_same_rows ["told", "due"] (sp_law_same_rows K) := ok_law_same_rows T D_law_same_rows
  obtain ⟨f_law_bent, fd_law_bent, D_law_bent⟩ := T.d__law_bent
  have G_law_bent : FnOk P w K mg base CX0 3 f_law_bent fd_law_bent ["bag", "text"] (sp_law_bent K) := ok_law_bent T D_law_bent
  refine D.F.ok sclaw (fun vs H Q E h => ?_) (fun cdv A outer s H vs Q E hr h => ?_)
  · obtain ⟨a, ns, rfl, _⟩ := h
    rfl
  · obtain ⟨a, ns, rfl, hS, hl, q⟩ := h
    have app_c : ∀ (x y : List Nat), (∀ c ∈ x, c < 128) → (∀ c ∈ y, c < 128) → ∀ c ∈ x ++ y, c < 128 := fun x y hx hy c h => (List.mem_append.mp h).elim (hx c) (hy c)
    refine ⟨_, (pss_cons (ps_set (i := 1) sclaw.nd rfl (.inr rfl) (pe_call G_law_bag (hr.mono (by decide)) (by rfl) D_law_bag.g D_law_bag.F.kp D_law_bag.b .nil pass0 (pa_cons (pv 0) pa_nil)))
    (pss_cons (ps_set (i := 2) sclaw.nd rfl (.inl rfl) (pe_call G_law_draw (hr.mono (by decide)) (by rfl) D_law_draw.g D_law_draw.F.kp D_law_draw.b .nil pass0 (pa_cons (pv 1) (pa_cons pe_int pa_nil))))
    (C8.pss_cut (ps_if (pt_cmpR op_eq (pe_call G_law_draw (hr.mono (by decide)) (by rfl) D_law_draw.g D_law_draw.F.kp D_law_draw.b .nil pass0 (pa_cons (pv 1) (pa_cons pe_int pa_nil))) pe_int (nomark _)) (pss_one (ps_set (i := 2) sclaw.nd rfl (.inl rfl) (pe_op op_add pe_int (pe_call G_law_draw (hr.mono (by decide)) (by rfl) D_law_draw.g D_law_draw.F.kp D_law_draw.b .nil pass0 (pa_cons (pv 1) (pa_cons pe_int pa_nil)))))) pss_nil)
    (pss_cons (ps_setLc (i := 3) (own := [("k", 12)]) (g := gName 12) (tt := tYes) rfl sclaw.nd rfl rfl (sw_true rfl rfl rfl (by decide +kernel)) (pi_range1 (by rfl) T.b_range (pa_cons (pv 2) pa_nil))
      (blkOk_by (own := [("k", 12)]) (N := ["script", "bag", "size", "texts", "bent", "turn", "spot", "text", "wrong", "pieces", "front", "told", "k", "piece"]) (sc := defScope slaw) (by decide +kernel)) (fun _ _ _ _ _ => (pg_name (i := 12) sclaw.nd rfl (.inl rfl))) (fun _ _ _ _ _ => pts_nil)
      (fun _ _ _ _ _ => (pe_call G_law_written (hr.mono (by decide)) (by rfl) D_law_written.g D_law_written.F.kp D_law_written.b .nil pass0 (pa_cons (pe_call G_law_row (hr.mono (by decide)) (by rfl) D_law_row.g D_law_row.F.kp D_law_row.b .nil pass0 (pa_cons (pv 1) (pa_cons pe_int (pa_cons (pe_call G_law_draw (hr.mono (by decide)) (by rfl) D_law_draw.g D_law_draw.F.kp D_law_draw.b .nil pass0 (pa_cons (pv 1) (pa_cons pe_int pa_nil))) pa_nil)))) pa_nil))))
    (pss_cons (ps_set (i := 4) sclaw.nd rfl (.inl rfl) (pe_callTy (r := rLstQ K) call_lstQ (by rfl) T.b_list (by decide +kernel) (pa_cons (pv 3) pa_nil)))
    (pss_cons (ps_for PassesOwn.never rfl (pi_range1 (by rfl) T.b_range (pa_cons (pe_call G_law_draw (hr.mono (by decide)) (by rfl) D_law_draw.g D_law_draw.F.kp D_law_draw.b .nil pass0 (pa_cons (pv 1) (pa_cons pe_int pa_nil))) pa_nil)) (pg_name (i := 5) sclaw.nd rfl (.inl rfl)) (pss_one (ps_if (pt_cmpR op_gt (pv 2) pe_int (nomark _)) (pss_cons (ps_set (i := 6) sclaw.nd rfl (.inl rfl) (pe_call G_law_draw (hr.mono (by decide)) (by rfl) D_law_draw.g D_law_draw.F.kp D_law_draw.b .nil pass0 (pa_cons (pv 1) (pa_cons (pv 2) pa_nil))))
    (pss_one (ps_asg (pe_op op_addZ (pe_call G_law_bent (hr.mono (by decide)) (by rfl) D_law_bent.g D_law_bent.F.kp D_law_bent.b .nil pass0 (pa_cons (pv 1) (pa_cons (pe_slice sl_str (pe_ix (r := rIxL K) ix_list (pv 3) (pv 6) (fun _ _ => rfl)) po_none (po_some (pe_un un_neg pe_int))) pa_nil))) pe_str) (pg_sub (pv 4) (pv 6) set_list)))) pss_nil)))
    (pss_cons (ps_set (i := 7) sclaw.nd rfl (.inl rfl) (pe_call G_law_ended (hr.mono (by decide)) (by rfl) D_law_ended.g D_law_ended.F.kp D_law_ended.b .nil pass0 (pa_cons (pv 1) (pa_cons (Rv.pe_joinT pe_str (pv 4)) pa_nil))))
    (pss_cons (ps_if (PW.pt (pw_or (pt_not (pt_val (pe_call G_law_asked hr (by rfl) D_law_asked.g D_law_asked.F.kp D_law_asked.b .nil pass0 (pa_cons (Rv.pe_joinT pe_str (pv 3)) pa_nil)))) (pw_or1 (pt_not (pt_val (pe_call G_law_asked hr (by rfl) D_law_asked.g D_law_asked.F.kp D_law_asked.b .nil pass0 (pa_cons (pv 7) pa_nil))))))) (pss_one (ps_ret pe_bl)) pss_nil)
    (pss_cons (ps_set (i := 8) sclaw.nd rfl (.inl rfl) (pe_call G_law_read (hr.mono (by decide)) (by rfl) D_law_read.g D_law_read.F.kp D_law_read.b .nil pass0 (pa_cons (pv 7) pa_nil)))
    (pss_cons (ps_if (pt_cmpR op_eq (pe_ix (r := rIxL K) ix_list (pv 8) pe_int (fun _ _ => rfl)) pe_int (nomark _)) (pss_one (ps_ret pe_bl)) pss_nil)
    (pss_cons (ps_set (i := 9) sclaw.nd rfl (.inl rfl) (pe_splitQ (pv 7) pe_str))
    (pss_cons (ps_set (i := 10) sclaw.nd rfl (.inl rfl) (Rv.pe_joinT pe_str (pe_lc (own := [("piece", 13)]) (g := gName 13) (tt := tYes) rfl sclaw.nd (pi_list (pe_slice sl_list (pv 9) po_none (po_some (pe_op op_sub (pe_ix (r := rIxL K) ix_list (pv 8) pe_int (fun _ _ => rfl)) pe_int))))
      (blkOk_by (own := [("piece", 13)]) (N := ["script", "bag", "size", "texts", "bent", "turn", "spot", "text", "wrong", "pieces", "front", "told", "k", "piece"]) (sc := defScope slaw) (by decide +kernel)) (fun _ _ _ _ _ => (pg_name (i := 13) sclaw.nd rfl (.inl rfl))) (fun _ _ _ _ _ => pts_nil)
      (fun _ _ _ _ _ => (pe_op op_addZ (pv 13) pe_str)))))
    (pss_cons (ps_set (i := 11) sclaw.nd rfl (.inl rfl) (pe_call G_law_told (hr.mono (by decide)) (by rfl) D_law_told.g D_law_told.F.kp D_law_told.b .nil pass0 (pa_cons (pv 10) pa_nil)))
    (pss_cons (ps_if (PW.pt (pw_or (pt_cmpR op_ne (pe_ix (r := rIxL K) ix_list (pv 11) pe_int (fun _ _ => rfl)) pe_int (nomark _)) (pw_or1 (pt_not (pt_val (pe_call G_law_same_rows (hr.mono (by decide)) (by rfl) D_law_same_rows.g D_law_same_rows.F.kp D_law_same_rows.b .nil pass0 (pa_cons (pe_ix (r := rIxL K) ix_list (pv 11) pe_int (fun _ _ => rfl)) (pa_cons (pe_ix (r := rIxL K) ix_list (pv 8) pe_int (fun _ _ => rfl)) pa_nil)))))))) (pss_one (ps_ret pe_bl)) pss_nil)
    (pss_one (ps_ret (pe_call G_law_asked hr (by rfl) D_law_asked.g D_law_asked.F.kp D_law_asked.b .nil pass0 (pa_cons (Rv.pe_joinT pe_str (pe_slice sl_list (pv 9) (po_some (pe_ix (r := rIxL K) ix_list (pv 8) pe_int (fun _ _ => rfl))) po_none)) pa_nil)))))))))))))))))), ?_⟩
    walk_at "rt"
    refine ⟨a, ns, rfl, hS, hl, fun H1 c b ms B1 _ => ?_⟩
    walk_at "rt"
    refine ⟨c, b, ms, 7, rfl, B1, by decide, by decide, fun H2 d w2 d0 d7 => ?_⟩
    walk_at "rt"
    refine ⟨fun σ' H' => ∃ n : Nat, σ' = [some (.ref a), some (.ref b), some (.int n), none, none, none, none, none, none, none, none, none, none, none] ∧ Wd c ms b H1 H' ∧ n ≤ 62, ?_, ?_⟩
    · walk_at "rt"
      refine ⟨c, b, ms, 6, rfl, w2.b1, by decide, by decide, fun H3 e w3 e0 e6 => ?_⟩
      walk_at "rt"
      refine ite2 (fun z => ?_) (fun z => ?_)
      · walk_at "rt"
        refine ⟨c, b, ms, 6, rfl, w3.b1, by decide, by decide, fun H4 u w4 u0 u6 => ?_⟩
        obtain ⟨n, hn⟩ : ∃ n : Nat, 57 + u = (n : Int) := ⟨(57 + u).toNat, by omega⟩
        walk_at "rt"
        rw [hn]
        exact ⟨n, rfl, (w2.trans w3).trans w4, by omega⟩
      · obtain ⟨n, rfl⟩ : ∃ n : Nat, d = (n : Int) := ⟨d.toNat, by omega⟩
        walk_at "rt"
        exact ⟨n, rfl, w2.trans w3, by omega⟩
    · rintro σ' H3 ⟨n, rfl, w3, n62⟩
      have hrg : -100000 ≤ (n : Int) ∧ (n : Int) ≤ 100000 := by omega
      walk_at "rt"
      refine lc_wd walk_rng w3.b1 (fun i acc => ∃ ts : List (List Nat), acc = (ts.map fun w => V.str (txt w)) ∧ ts.length = i ∧ i ≤ n ∧ ∀ w ∈ ts, w ≠ [] ∧ w.length ≤ 41 ∧ ∀ c ∈ w, c < 128) ⟨[], rfl, rfl, Nat.zero_le _, fun r hr => absurd hr List.not_mem_nil⟩ ?_ (fun _ _ => trivial) ?_ ?_
      · rintro i acc ⟨ts, rfl, l1, l2, _⟩
        rw [List.length_map]
        omega
      · rintro i x H8 H9 acc Qc R hi w8 ⟨ts, rfl, l1, l2, ht⟩ ⟨rfl, rfl⟩ qc _
        have hi2 : i < n := by simpa using hi
        walk_at "rt"
        refine ⟨rfl, ?_⟩
        walk_at "rt"
        refine ⟨c, b, ms, 13, rfl, w8.b1, by decide, by decide, fun H9 m' w9 m0 m13 => ?_⟩
        obtain ⟨mm, rfl⟩ : ∃ mm : Nat, m' = mm := ⟨m'.toNat, by omega⟩
        walk_at "rt"
        refine ⟨c, b, ms, 12, mm, rfl, w9.b1, by decide, by decide, by omega, fun H10 D r w10 nD hD ok => ?_⟩
        have wl := writ_len ok
        walk_at "rt"
        refine ⟨D, r, rfl, hD, ok, ?_⟩
        refine qc _ _ (w9.trans w10) ⟨ts ++ [writ r ++ [10]], by rw [List.map_append]; rfl, by rw [List.length_append, l1]; rfl, by omega, fun w hw => ?_⟩
        rcases List.mem_append.mp hw with k | k
        · exact ht w k
        · rw [List.mem_singleton.mp k]
          refine ⟨by simp, by rw [List.length_append]; show (writ r).length + 1 ≤ 41; omega, app_c _ _ (writ_small ok) (by decide)⟩
      · rintro H4 T acc w4 nT hT ⟨ts, rfl, ln, _, ht⟩
        have lnn : ts.length = n := by simpa using ln
        have flat41 : ∀ l : List (List Nat), (∀ w ∈ l, w.length ≤ 41) → l.flatten.length ≤ 41 * l.length := by
          intro l
          induction l with
          | nil => exact fun _ => Nat.le_refl _
          | cons x r ih =>
            intro h
            have h1 := h x (List.mem_cons_self ..)
            have h2 := ih fun w hw => h w (List.mem_cons_of_mem _ hw)
            rw [List.flatten_cons, List.length_append, List.length_cons]
            omega
        have tfl := flat41 ts fun w hw => (ht w hw).2.1
        have tfl2 : ts.flatten.length ≤ 2600 := by omega
        have tsc : ∀ w ∈ ts, ∀ c ∈ w, c < 128 := fun w hw => (ht w hw).2.2
        have nTb := w3.b1.ne nT
        walk_at "rt"
        intro be nbe
        obtain ⟨H5, eH5, S5, hbe⟩ := new_gen (.lst (ts.map fun w => V.str (txt w))) nbe
        rw [← eH5]
        have hT5 := S5 _ _ hT
        have nbb := w4.b1.ne nbe
        have nbc := w4.b1.nec nbe
        have nTbe : T ≠ be := ne_of_none hT nbe
        have w45 := w4.same S5
        walk_at "rt"
        refine ⟨c, b, ms, 3, rfl, w45.b1, by decide, by decide, fun H6 tn w6 t0 t3 => ?_⟩
        have hrg3 : -100000 ≤ tn ∧ tn ≤ 100000 := by omega
        have w46 := w45.trans w6
        have B6 := w46.b1
        walk_at "rt"
        refine fr_rng0 (fun i σ H' => ∃ (bs : List (List Nat)) (y5 y6 : Option V), σ = [some (.ref a), some (.ref b), some (.int n), some (.ref T), some (.ref be), y5, y6, none, none, none, none, none, none, none] ∧ Bag c ms b H' ∧ H' T = some (.lst (ts.map fun w => V.str (txt w))) ∧ H' be = some (.lst (bs.map fun w => V.str (txt w))) ∧ bs.length = n ∧ bs.flatten.length ≤ 2600 + 5800 * i ∧ ∀ w ∈ bs, ∀ c ∈ w, c < 128)
          ⟨ts, none, none, rfl, B6, w6.lst nTb hT5, w6.lst nbb hbe, lnn, by omega, tsc⟩ ?_ ?_
        · rintro i σ H7 hi ⟨bs, y5, y6, rfl, B7, hT7, hb7, lb, fb, bc⟩
          walk_at "rt"
          refine ite2 (fun z => ?_) (fun z => ?_)
          · have z1 : (0 : Int) < (n : Int) := of_decide_eq_true z
            walk_at "rt"
            refine ⟨c, b, ms, n, rfl, B7, by omega, by omega, fun H8 sp w8 s0 s1 => ?_⟩
            obtain ⟨k, rfl⟩ : ∃ k : Nat, sp = (k : Int) := ⟨sp.toNat, by omega⟩
            have hk : k < ts.length := by omega
            obtain ⟨ne, wl, wc⟩ := ht _ (List.getElem_mem hk)
            have et : atI (ts.map fun w => V.str (txt w)) (k : Int) = some (.str (txt ts[k])) := by
              rw [atI_get (by rw [List.length_map]; exact hk), List.getElem_map]
            generalize ts[k] = w at *
            have hT8 := w8.lst nTb hT7
            walk_at "rt"
            refine rd_slS (by omega) ?_
            rw [cutS_m1]
            walk_at "rt"
            refine ⟨c, b, ms, w.dropLast, rfl, w8.b1, by rw [List.length_dropLast]; omega, fun x h => wc x (List.dropLast_subset w h), fun H9 cs' w9 cl' cc' => ?_⟩
            have hb9 := w9.lst nbb (w8.lst nbb hb7)
            have hT9 := w9.lst nTb hT8
            walk_at "rt"
            refine rd_addZ (b := [10]) (by show cs'.length + 1 ≤ 1000000; omega) ?_
            have ej : ixN (bs.map fun w => V.str (txt w)).length (k : Int) = some k := ixN_of rfl (by rw [List.length_map, lb]; omega)
            walk_at "rt"
            have es : (bs.map fun w => V.str (txt w)).set k (V.str (txt (cs' ++ [10]))) = (bs.set k (cs' ++ [10])).map fun w => V.str (txt w) := (List.map_set ..).symm
            have fs := flat_set bs k (cs' ++ [10])
            have l1 : (cs' ++ [10]).length ≤ 5701 := by rw [List.length_append]; show cs'.length + 1 ≤ 5701; omega
            refine ⟨bs.set k (cs' ++ [10]), _, _, rfl, w9.b1.upd nbb nbc, ?_, ?_, by rw [List.length_set]; exact lb, by omega, fun x hx => ?_⟩
            · rw [upd_ne nTbe]
              exact hT9
            · rw [upd_same, es]
            · rcases List.mem_or_eq_of_mem_set hx with y | y
              · exact bc x y
              · rw [y]
                exact app_c _ _ cc' (by decide)
          · walk_at "rt"
            exact ⟨bs, _, _, rfl, B7, hT7, hb7, lb, by omega, bc⟩
        · rintro σ H7 ⟨bs, y5, y6, rfl, B7, hT7, hb7, lb, fb, bc⟩
          have t3' : tn.toNat ≤ 2 := by omega
          have fb2 : bs.flatten.length ≤ 20000 := by
            have : 5800 * tn.toNat ≤ 5800 * 2 := Nat.mul_le_mul_left _ t3'
            omega
          have flc : ∀ l : List (List Nat), (∀ w ∈ l, ∀ c ∈ w, c < 128) → ∀ c ∈ l.flatten, c < 128 := fun l h c hc => by
            obtain ⟨w, hw, hx⟩ := flat_mem hc
            exact h w hw c hx
          walk_at "rt"
          refine rd_joinT hb7 (by omega) ?_
          walk_at "rt"
          refine ⟨c, b, ms, bs.flatten, rfl, B7, by omega, flc bs bc, fun H8 cs w8 cl cc => ?_⟩
          have hT8 := w8.lst nTb hT7
          walk_at "rt"
          refine rd_joinT hT8 (by omega) ?_
          walk_at "rt"
          refine ⟨ts.flatten, rfl, by omega, flc ts tsc, fun H9 S9 => ?_⟩
          walk_at "rt"
          refine ⟨cs, rfl, by omega, cc, fun H10 S10 => ?_⟩
          walk_at "rt"
          refine ⟨cs, rfl, by omega, fun k rs H11 W R qs rd S11 hW hR tR => ?_⟩
          have ok := rd.fr.ok
          have m60 := rd.fr.m60
          walk_at "rt"
          by_cases k0 : k = 0
          · rw [decide_eq_true (show V.int (k : Int) = V.int 0 from by rw [k0]; rfl)]
            walk_at "rt"
            exact q _
          · rw [decide_eq_false (show ¬ V.int (k : Int) = V.int 0 from fun z => k0 (by have := V.int.inj z; omega))]
            obtain ⟨ek, rdF⟩ := rd.front k0
            walk_at "rt"
            refine rd_split (c := 10) (by decide) (by omega) fun l nl => ?_
            have wb := spl_wb (s := 10) cc
            have wp : 0 < (TL.spl [10] 0 [] cs).length := List.length_pos_iff.mpr (spl_ne [10] cs)
            have lew := rd.fr.le
            rw [List.length_dropLast] at lew
            generalize TL.spl [10] 0 [] cs = ws at *
            obtain ⟨H12, eH12, S12, hL⟩ := new_gen (.lst (ws.map fun w => V.str (txt w))) nl
            rw [← eH12]
            have hW12 := S12 _ _ hW
            have hR12 := S12 _ _ hR
            have tR12 := tR.same S12
            have eki : (k : Int) - 1 = ((rs.length : Nat) : Int) := by omega
            walk_at "rt"
            rw [eki]
            have wbt := wb.take rs.length
            have wbd := wb.drop k
            refine slT hL (by rw [List.length_map]; omega) fun H13 l13 S13 nl13 hl13 => ?_
            rw [← List.map_take] at hl13
            have frl : ∀ l : List (List Nat), (l.map (· ++ [10])).flatten.length = l.flatten.length + l.length := by
              intro l
              induction l with
              | nil => rfl
              | cons x r ih =>
                rw [List.map_cons, List.flatten_cons, List.length_append, ih, List.flatten_cons]
                simp only [List.length_append, List.length_cons, List.length_nil]
                omega
            have frc : ∀ c ∈ ((ws.take rs.length).map (· ++ [10])).flatten, c < 128 := fun c hc => by
              obtain ⟨w, hw, hx⟩ := flat_mem hc
              obtain ⟨u, hu, rfl⟩ := List.mem_map.mp hw
              exact app_c _ _ (wbt.c u hu) (by decide) c hx
            have fr1 := frl (ws.take rs.length)
            have ft := wbt.t
            have fn : (ws.take rs.length).length ≤ 60 := by rw [List.length_take]; omega
            have fdt := wbd.t
            have fdn := wbd.n
            have wt := wbt.len
            walk_at "rt"
            refine lc_map (walk_list (xs := (ws.take rs.length).map fun w => V.str (txt w))) (((ws.take rs.length).map (· ++ [10])).map fun w => V.str (txt w)) ?_ ?_ (fun H' S => SqL.of (S _ _ hl13)) ?_ ?_
            · simp
            · rw [List.length_map]; omega
            · rintro i x H14 H15 Qc Rc hi S ⟨rfl, ex⟩ qc
              have hi2 : i < (ws.take rs.length).length := by rw [List.length_map] at hi; exact hi
              rw [List.getElem?_map, List.getElem?_eq_getElem hi2] at ex
              cases ex
              have eg : (((ws.take rs.length).map (· ++ [10])).map fun w => V.str (txt w))[i]? = some (.str (txt ((ws.take rs.length)[i] ++ [10]))) := by
                rw [List.getElem?_map, List.getElem?_map, List.getElem?_eq_getElem hi2]
                rfl
              have pl := wt _ (List.getElem_mem hi2)
              generalize (ws.take rs.length)[i] = piece at *
              walk_at "rt"
              refine ⟨rfl, ?_⟩
              walk_at "rt"
              refine rd_addZ (b := [10]) (by show piece.length + 1 ≤ 1000000; omega) ?_
              exact qc _ _ (Same.refl _) eg
            · intro H14 F S14 nF hF
              have S1214 := S13.trans S14
              walk_at "rt"
              refine rd_joinT hF (by omega) ?_
              walk_at "rt"
              refine ⟨_, rfl, by omega, frc, fun rs2 H15 D2 R2 qs2 rd2 S15 hD2 hR2 tR2 => ?_, fun k2 rs2 H15 D2 k20 rd2 S15 hD2 => absurd (rdF.same rd2).1 (Ne.symm k20)⟩
              obtain ⟨_, rfl⟩ := rdF.same rd2
              have S1215 := S1214.trans S15
              have hW15 := S1215 _ _ hW12
              have hR15 := S1215 _ _ hR12
              have hL15 := S1215 _ _ hL
              walk_at "rt"
              rw [decide_eq_true (show V.int 0 = V.int 0 from rfl)]
              walk_at "rt"
              refine ⟨R2, R, qs2, qs, rs, rfl, hR2, hR15, tR2, tR12.same S1215, by omega, ok, ?_⟩
              walk_at "rt"
              refine slF hL15 (by rw [List.length_map]; omega) fun H16 l16 S16 nl16 hl16 => ?_
              rw [← List.map_drop] at hl16
              have j2 := join_le 10 (ws.drop k)
              refine rd_joinS (s := 10) hl16 (by omega) ?_
              walk_at "rt"
              refine ⟨_, rfl, by omega, fun c hc => ?_, fun H17 S17 => q _⟩
              rcases join_mem hc with e | ⟨w, hw, hx⟩
              · rw [e]; decide
              · exact wbd.c w hw c hx
end
theorem all_mk {l : PySem.W.OpenLaw} {w : World} {K : PySem.W.Frag} {h : Heap} {mg : Str → Option Value} {fa : Addr} (X : K.In h) (G : h.Ns mainGlobals mg) (hfa : mg "law" = some (.ref fa))
    {f0 : Addr} {od0 an0 : Option Addr} {sl0 : Array (Option Value)} {oc0 kV0 dc0 pm0 cd0 ct0 : Value}
    (a0 : PySem.W.nsIn K mainGlobals "has_guard_signs" = some (some (.ref f0))) (l0 : K.lookup f0 = some ⟨oc0, od0, .func (PySem.W.fnOf "has_guard_signs" "has_guard_signs" (defArgs shas_guard_signs) (defBody shas_guard_signs) (defScope shas_guard_signs) .none kV0 dc0 pm0 an0 cd0 ct0), sl0⟩) (c0 : PySem.W.codeIn K cd0 "has_guard_signs" = true) (k0 : PySem.W.keepIn K (.ref f0) = true)
    {f1 : Addr} {od1 an1 : Option Addr} {sl1 : Array (Option Value)} {oc1 kV1 dc1 pm1 cd1 ct1 : Value}
    (a1 : PySem.W.nsIn K mainGlobals "read_script" = some (some (.ref f1))) (l1 : K.lookup f1 = some ⟨oc1, od1, .func (PySem.W.fnOf "read_script" "read_script" (defArgs sread_script) (defBody sread_script) (defScope sread_script) .none kV1 dc1 pm1 an1 cd1 ct1), sl1⟩) (c1 : PySem.W.codeIn K cd1 "read_script" = true) (k1 : PySem.W.keepIn K (.ref f1) = true)
    {f2 : Addr} {od2 an2 : Option Addr} {sl2 : Array (Option Value)} {oc2 kV2 dc2 pm2 cd2 ct2 : Value}
    (a2 : PySem.W.nsIn K mainGlobals "_read_line" = some (some (.ref f2))) (l2 : K.lookup f2 = some ⟨oc2, od2, .func (PySem.W.fnOf "_read_line" "_read_line" (defArgs s_read_line) (defBody s_read_line) (defScope s_read_line) .none kV2 dc2 pm2 an2 cd2 ct2), sl2⟩) (c2 : PySem.W.codeIn K cd2 "_read_line" = true) (k2 : PySem.W.keepIn K (.ref f2) = true)
    {f3 : Addr} {od3 an3 : Option Addr} {sl3 : Array (Option Value)} {oc3 kV3 dc3 pm3 cd3 ct3 : Value}
    (a3 : PySem.W.nsIn K mainGlobals "_read_words" = some (some (.ref f3))) (l3 : K.lookup f3 = some ⟨oc3, od3, .func (PySem.W.fnOf "_read_words" "_read_words" (defArgs s_read_words) (defBody s_read_words) (defScope s_read_words) .none kV3 dc3 pm3 an3 cd3 ct3), sl3⟩) (c3 : PySem.W.codeIn K cd3 "_read_words" = true) (k3 : PySem.W.keepIn K (.ref f3) = true)
    {f4 : Addr} {od4 an4 : Option Addr} {sl4 : Array (Option Value)} {oc4 kV4 dc4 pm4 cd4 ct4 : Value}
    (a4 : PySem.W.nsIn K mainGlobals "_law_bag" = some (some (.ref f4))) (l4 : K.lookup f4 = some ⟨oc4, od4, .func (PySem.W.fnOf "_law_bag" "_law_bag" (defArgs s_law_bag) (defBody s_law_bag) (defScope s_law_bag) .none kV4 dc4 pm4 an4 cd4 ct4), sl4⟩) (c4 : PySem.W.codeIn K cd4 "_law_bag" = true) (k4 : PySem.W.keepIn K (.ref f4) = true)
    {f5 : Addr} {od5 an5 : Option Addr} {sl5 : Array (Option Value)} {oc5 kV5 dc5 pm5 cd5 ct5 : Value}
    (a5 : PySem.W.nsIn K mainGlobals "_law_draw" = some (some (.ref f5))) (l5 : K.lookup f5 = some ⟨oc5, od5, .func (PySem.W.fnOf "_law_draw" "_law_draw" (defArgs s_law_draw) (defBody s_law_draw) (defScope s_law_draw) .none kV5 dc5 pm5 an5 cd5 ct5), sl5⟩) (c5 : PySem.W.codeIn K cd5 "_law_draw" = true) (k5 : PySem.W.keepIn K (.ref f5) = true)
    {f6 : Addr} {od6 an6 : Option Addr} {sl6 : Array (Option Value)} {oc6 kV6 dc6 pm6 cd6 ct6 : Value}
    (a6 : PySem.W.nsIn K mainGlobals "_law_row" = some (some (.ref f6))) (l6 : K.lookup f6 = some ⟨oc6, od6, .func (PySem.W.fnOf "_law_row" "_law_row" (defArgs s_law_row) (defBody s_law_row) (defScope s_law_row) .none kV6 dc6 pm6 an6 cd6 ct6), sl6⟩) (c6 : PySem.W.codeIn K cd6 "_law_row" = true) (k6 : PySem.W.keepIn K (.ref f6) = true)
    {f7 : Addr} {od7 an7 : Option Addr} {sl7 : Array (Option Value)} {oc7 kV7 dc7 pm7 cd7 ct7 : Value}
    (a7 : PySem.W.nsIn K mainGlobals "_law_is_whole" = some (some (.ref f7))) (l7 : K.lookup f7 = some ⟨oc7, od7, .func (PySem.W.fnOf "_law_is_whole" "_law_is_whole" (defArgs s_law_is_whole) (defBody s_law_is_whole) (defScope s_law_is_whole) .none kV7 dc7 pm7 an7 cd7 ct7), sl7⟩) (c7 : PySem.W.codeIn K cd7 "_law_is_whole" = true) (k7 : PySem.W.keepIn K (.ref f7) = true)
    {f8 : Addr} {od8 an8 : Option Addr} {sl8 : Array (Option Value)} {oc8 kV8 dc8 pm8 cd8 ct8 : Value}
    (a8 : PySem.W.nsIn K mainGlobals "_law_written" = some (some (.ref f8))) (l8 : K.lookup f8 = some ⟨oc8, od8, .func (PySem.W.fnOf "_law_written" "_law_written" (defArgs s_law_written) (defBody s_law_written) (defScope s_law_written) .none kV8 dc8 pm8 an8 cd8 ct8), sl8⟩) (c8 : PySem.W.codeIn K cd8 "_law_written" = true) (k8 : PySem.W.keepIn K (.ref f8) = true)
    {f9 : Addr} {od9 an9 : Option Addr} {sl9 : Array (Option Value)} {oc9 kV9 dc9 pm9 cd9 ct9 : Value}
    (a9 : PySem.W.nsIn K mainGlobals "_law_same_rows" = some (some (.ref f9))) (l9 : K.lookup f9 = some ⟨oc9, od9, .func (PySem.W.fnOf "_law_same_rows" "_law_same_rows" (defArgs s_law_same_rows) (defBody s_law_same_rows) (defScope s_law_same_rows) .none kV9 dc9 pm9 an9 cd9 ct9), sl9⟩) (c9 : PySem.W.codeIn K cd9 "_law_same_rows" = true) (k9 : PySem.W.keepIn K (.ref f9) = true)
    {f10 : Addr} {od10 an10 : Option Addr} {sl10 : Array (Option Value)} {oc10 kV10 dc10 pm10 cd10 ct10 : Value}
    (a10 : PySem.W.nsIn K mainGlobals "_law_char" = some (some (.ref f10))) (l10 : K.lookup f10 = some ⟨oc10, od10, .func (PySem.W.fnOf "_law_char" "_law_char" (defArgs s_law_char) (defBody s_law_char) (defScope s_law_char) .none kV10 dc10 pm10 an10 cd10 ct10), sl10⟩) (c10 : PySem.W.codeIn K cd10 "_law_char" = true) (k10 : PySem.W.keepIn K (.ref f10) = true)
    {f11 : Addr} {od11 an11 : Option Addr} {sl11 : Array (Option Value)} {oc11 kV11 dc11 pm11 cd11 ct11 : Value}
    (a11 : PySem.W.nsIn K mainGlobals "_law_bent_word" = some (some (.ref f11))) (l11 : K.lookup f11 = some ⟨oc11, od11, .func (PySem.W.fnOf "_law_bent_word" "_law_bent_word" (defArgs s_law_bent_word) (defBody s_law_bent_word) (defScope s_law_bent_word) .none kV11 dc11 pm11 an11 cd11 ct11), sl11⟩) (c11 : PySem.W.codeIn K cd11 "_law_bent_word" = true) (k11 : PySem.W.keepIn K (.ref f11) = true)
    {f12 : Addr} {od12 an12 : Option Addr} {sl12 : Array (Option Value)} {oc12 kV12 dc12 pm12 cd12 ct12 : Value}
    (a12 : PySem.W.nsIn K mainGlobals "_law_bent" = some (some (.ref f12))) (l12 : K.lookup f12 = some ⟨oc12, od12, .func (PySem.W.fnOf "_law_bent" "_law_bent" (defArgs s_law_bent) (defBody s_law_bent) (defScope s_law_bent) .none kV12 dc12 pm12 an12 cd12 ct12), sl12⟩) (c12 : PySem.W.codeIn K cd12 "_law_bent" = true) (k12 : PySem.W.keepIn K (.ref f12) = true)
    {f13 : Addr} {od13 an13 : Option Addr} {sl13 : Array (Option Value)} {oc13 kV13 dc13 pm13 cd13 ct13 : Value}
    (a13 : PySem.W.nsIn K mainGlobals "_law_block" = some (some (.ref f13))) (l13 : K.lookup f13 = some ⟨oc13, od13, .func (PySem.W.fnOf "_law_block" "_law_block" (defArgs s_law_block) (defBody s_law_block) (defScope s_law_block) .none kV13 dc13 pm13 an13 cd13 ct13), sl13⟩) (c13 : PySem.W.codeIn K cd13 "_law_block" = true) (k13 : PySem.W.keepIn K (.ref f13) = true)
    {f14 : Addr} {od14 an14 : Option Addr} {sl14 : Array (Option Value)} {oc14 kV14 dc14 pm14 cd14 ct14 : Value}
    (a14 : PySem.W.nsIn K mainGlobals "_law_good_guard" = some (some (.ref f14))) (l14 : K.lookup f14 = some ⟨oc14, od14, .func (PySem.W.fnOf "_law_good_guard" "_law_good_guard" (defArgs s_law_good_guard) (defBody s_law_good_guard) (defScope s_law_good_guard) .none kV14 dc14 pm14 an14 cd14 ct14), sl14⟩) (c14 : PySem.W.codeIn K cd14 "_law_good_guard" = true) (k14 : PySem.W.keepIn K (.ref f14) = true)
    {f15 : Addr} {od15 an15 : Option Addr} {sl15 : Array (Option Value)} {oc15 kV15 dc15 pm15 cd15 ct15 : Value}
    (a15 : PySem.W.nsIn K mainGlobals "_law_read_row" = some (some (.ref f15))) (l15 : K.lookup f15 = some ⟨oc15, od15, .func (PySem.W.fnOf "_law_read_row" "_law_read_row" (defArgs s_law_read_row) (defBody s_law_read_row) (defScope s_law_read_row) .none kV15 dc15 pm15 an15 cd15 ct15), sl15⟩) (c15 : PySem.W.codeIn K cd15 "_law_read_row" = true) (k15 : PySem.W.keepIn K (.ref f15) = true)
    {f16 : Addr} {od16 an16 : Option Addr} {sl16 : Array (Option Value)} {oc16 kV16 dc16 pm16 cd16 ct16 : Value}
    (a16 : PySem.W.nsIn K mainGlobals "_law_read" = some (some (.ref f16))) (l16 : K.lookup f16 = some ⟨oc16, od16, .func (PySem.W.fnOf "_law_read" "_law_read" (defArgs s_law_read) (defBody s_law_read) (defScope s_law_read) .none kV16 dc16 pm16 an16 cd16 ct16), sl16⟩) (c16 : PySem.W.codeIn K cd16 "_law_read" = true) (k16 : PySem.W.keepIn K (.ref f16) = true)
    {f17 : Addr} {od17 an17 : Option Addr} {sl17 : Array (Option Value)} {oc17 kV17 dc17 pm17 cd17 ct17 : Value}
    (a17 : PySem.W.nsIn K mainGlobals "_law_told" = some (some (.ref f17))) (l17 : K.lookup f17 = some ⟨oc17, od17, .func (PySem.W.fnOf "_law_told" "_law_told" (defArgs s_law_told) (defBody s_law_told) (defScope s_law_told) .none kV17 dc17 pm17 an17 cd17 ct17), sl17⟩) (c17 : PySem.W.codeIn K cd17 "_law_told" = true) (k17 : PySem.W.keepIn K (.ref f17) = true)
    {f18 : Addr} {od18 an18 : Option Addr} {sl18 : Array (Option Value)} {oc18 kV18 dc18 pm18 cd18 ct18 : Value}
    (a18 : PySem.W.nsIn K mainGlobals "_law_refused" = some (some (.ref f18))) (l18 : K.lookup f18 = some ⟨oc18, od18, .func (PySem.W.fnOf "_law_refused" "_law_refused" (defArgs s_law_refused) (defBody s_law_refused) (defScope s_law_refused) .none kV18 dc18 pm18 an18 cd18 ct18), sl18⟩) (c18 : PySem.W.codeIn K cd18 "_law_refused" = true) (k18 : PySem.W.keepIn K (.ref f18) = true)
    {f19 : Addr} {od19 an19 : Option Addr} {sl19 : Array (Option Value)} {oc19 kV19 dc19 pm19 cd19 ct19 : Value}
    (a19 : PySem.W.nsIn K mainGlobals "_law_asked" = some (some (.ref f19))) (l19 : K.lookup f19 = some ⟨oc19, od19, .func (PySem.W.fnOf "_law_asked" "_law_asked" (defArgs s_law_asked) (defBody s_law_asked) (defScope s_law_asked) .none kV19 dc19 pm19 an19 cd19 ct19), sl19⟩) (c19 : PySem.W.codeIn K cd19 "_law_asked" = true) (k19 : PySem.W.keepIn K (.ref f19) = true)
    {f20 : Addr} {od20 an20 : Option Addr} {sl20 : Array (Option Value)} {oc20 kV20 dc20 pm20 cd20 ct20 : Value}
    (a20 : PySem.W.nsIn K mainGlobals "_law_ended" = some (some (.ref f20))) (l20 : K.lookup f20 = some ⟨oc20, od20, .func (PySem.W.fnOf "_law_ended" "_law_ended" (defArgs s_law_ended) (defBody s_law_ended) (defScope s_law_ended) .none kV20 dc20 pm20 an20 cd20 ct20), sl20⟩) (c20 : PySem.W.codeIn K cd20 "_law_ended" = true) (k20 : PySem.W.keepIn K (.ref f20) = true)
    {f21 : Addr} {od21 an21 : Option Addr} {sl21 : Array (Option Value)} {oc21 kV21 dc21 pm21 cd21 ct21 : Value}
    (a21 : PySem.W.nsIn K mainGlobals "law" = some (some (.ref f21))) (l21 : K.lookup f21 = some ⟨oc21, od21, .func (PySem.W.fnOf "law" "law" (defArgs slaw) (defBody slaw) (defScope slaw) .none kV21 dc21 pm21 an21 cd21 ct21), sl21⟩) (c21 : PySem.W.codeIn K cd21 "law" = true) (k21 : PySem.W.keepIn K (.ref f21) = true)
    {CE CL CI CR fI : Addr} {nmE qE : Str} {NE : Addr} {bsE : List Value} {snE : List Str} {subE : List Value} {abE : Bool} {colE : Option Bool} {ddE : Option Addr} {mE0 mE1 mE2 mE3 mE5 : Option Value}
    {odE anE : Option Addr} {slE : Array (Option Value)} {ocE kVE dcE pmE cdE ctE : Value}
    (eC : PySem.W.nsIn K mainGlobals "InvalidText" = some (some (.ref CE))) (eL : PySem.W.nsIn K mainGlobals "InvalidLine" = some (some (.ref CL))) (eI : PySem.W.nsIn K mainGlobals "InvalidImage" = some (some (.ref CI))) (eR : PySem.W.nsIn K mainGlobals "RedoError" = some (some (.ref CR)))
    (eX : K.lookup CE = some (excClassObj nmE qE CE NE bsE [.ref CR, .type "ValueError", .type "Exception", .type "BaseException", .type "object"] true snE subE abE colE ddE mE0 mE1 mE2 mE3 mE5 "ValueError.__new__"))
    (eSa : PySem.W.findIn K (.ref CE) "__setattr__" = some (some (.builtin "object.__setattr__"))) (eGa : PySem.W.findIn K (.ref CE) "__getattribute__" = some (some (.builtin "BaseException.__getattribute__"))) (eGg : PySem.W.findIn K (.ref CE) "__getattr__" = some none) (eNb : PySem.W.findIn K (.ref CE) "line" = some none)
    (eIn : PySem.W.findIn K (.ref CE) "__init__" = some (some (.ref fI))) (eTf : PySem.W.typeIn K (.ref fI) = some (.type "function"))
    (eLk : K.lookup fI = some ⟨ocE, odE, .func (PySem.W.fnOf "__init__" "InvalidText.__init__" (defArgs sInvalidTextu_initu) (defBody sInvalidTextu_initu) (defScope sInvalidTextu_initu) .none kVE dcE pmE anE cdE ctE), slE⟩) (eCd : PySem.W.codeIn K cdE "InvalidText.__init__" = true) (eKf : PySem.W.keepIn K (.ref fI) = true)
    (eKp : PySem.W.keepIn K (.ref CE) = true) (eSb : PySem.W.subIn K (.ref CE) (.type "BaseException") = some true) (eTy : PySem.W.typeIn K (.ref CE) = some (.type "type")) (eHd : PySem.W.hasDictIn K CE = true) (eIc : PySem.W.isClsIn K CE = true) (eSs : PySem.W.subIn K (.ref CE) (.ref CE) = some true)
    (eCc : PySem.W.findIn K (.ref CE) "__class__" = some (some (.builtin "object.__class__"))) (eSp : PySem.W.specialIn K (.builtin "object.__class__") "__get__" = some (some (.builtin "getset_descriptor.__get__"))) (eTk : PySem.W.takesIn K (.builtin "object.__class__") = some true) (eMo : PySem.W.mroIn K CE (.type "object") = some true)
    (eKl : PySem.W.subIn K (.ref CE) (.ref CL) = some false) (eKi : PySem.W.subIn K (.ref CE) (.ref CI) = some false) (eKv : PySem.W.subIn K (.ref CE) (.type "ValueError") = some true)
    (eLi : PySem.W.isClsIn K CL = true) (eLt : PySem.W.typeIn K (.ref CL) = some (.type "type")) (eIi : PySem.W.isClsIn K CI = true) (eIt : PySem.W.typeIn K (.ref CI) = some (.type "type"))
    (eRb : PySem.W.subIn K (.ref CR) (.type "BaseException") = some true) (eRi : PySem.W.isClsIn K CR = true) (eRt : PySem.W.typeIn K (.ref CR) = some (.type "type")) (eRs : PySem.W.subIn K (.ref CE) (.ref CR) = some true)
    (z0 : PySem.W.nsIn K mainGlobals "ValueError" = some none)
    (z1 : PySem.W.nsIn K mainGlobals "abs" = some none)
    (z2 : PySem.W.nsIn K mainGlobals "all" = some none)
    (z3 : PySem.W.nsIn K mainGlobals "bool" = some none)
    (z4 : PySem.W.nsIn K mainGlobals "enumerate" = some none)
    (z5 : PySem.W.nsIn K mainGlobals "int" = some none)
    (z6 : PySem.W.nsIn K mainGlobals "isinstance" = some none)
    (z7 : PySem.W.nsIn K mainGlobals "len" = some none)
    (z8 : PySem.W.nsIn K mainGlobals "list" = some none)
    (z9 : PySem.W.nsIn K mainGlobals "range" = some none)
    (z10 : PySem.W.nsIn K mainGlobals "str" = some none)
    (z11 : PySem.W.nsIn K mainGlobals "tuple" = some none)
    {t0 : Tok} (y0 : PySem.W.nsIn K mainGlobals "EMPTY" = some (some (.int (-1) t0)))
    {t1 : Tok} (y1 : PySem.W.nsIn K mainGlobals "MOST_LINES" = some (some (.int (60) t1)))
    {t2 : Tok} (y2 : PySem.W.nsIn K mainGlobals "_GUARD_SIGNS" = some (some (.str ".*-0123456789" t2)))
    {t3_0 t3_1 t3_2 t3_3 t3_4 t3_5 t3_6 t3_7 t3_8 t3_9 t3_10 t3_11 : Tok} {tn3 : Nat} {ta3 : Addr} {td3 : Option Addr} {tl3 : Array (Option Value)} (y3 : PySem.W.nsIn K mainGlobals "_NUMBERS" = some (some (.ref ta3))) (w3 : K.lookup ta3 = some ⟨.type "tuple", td3, .seq #[.str "0" t3_0, .str "1" t3_1, .str "2" t3_2, .str "3" t3_3, .str "4" t3_4, .str "5" t3_5, .str "6" t3_6, .str "7" t3_7, .str "8" t3_8, .str "9" t3_9, .str "10" t3_10, .str "11" t3_11] tn3, tl3⟩)
    : ∃ fd : FuncData, (∀ (s : Shared) (v : Value), BindsTo s fd ⟨[v], []⟩ [("script", v)]) ∧ ∀ base : Heap, K.In base → base.Ns mainGlobals mg → FnOk l.prog w K mg base CX0 6 fa fd ["script"] (splaw K) := by
  have e := hfa.symm.trans (PySem.W.mg_of X G a21)
  cases e
  have T : Top K mg := ⟨def_mk X G a0 l0 c0 k0 (fun _ _ _ _ _ _ us hl => match us, hl with | [_], _ => rfl),
    def_mk X G a1 l1 c1 k1 (fun _ _ _ _ _ _ us hl => match us, hl with | [_], _ => rfl),
    def_mk X G a2 l2 c2 k2 (fun _ _ _ _ _ _ us hl => match us, hl with | [_], _ => rfl),
    def_mk X G a3 l3 c3 k3 (fun _ _ _ _ _ _ us hl => match us, hl with | [_, _], _ => rfl),
    def_mk X G a4 l4 c4 k4 (fun _ _ _ _ _ _ us hl => match us, hl with | [_], _ => rfl),
    def_mk X G a5 l5 c5 k5 (fun _ _ _ _ _ _ us hl => match us, hl with | [_, _], _ => rfl),
    def_mk X G a6 l6 c6 k6 (fun _ _ _ _ _ _ us hl => match us, hl with | [_, _, _], _ => rfl),
    def_mk X G a7 l7 c7 k7 (fun _ _ _ _ _ _ us hl => match us, hl with | [_], _ => rfl),
    def_mk X G a8 l8 c8 k8 (fun _ _ _ _ _ _ us hl => match us, hl with | [_], _ => rfl),
    def_mk X G a9 l9 c9 k9 (fun _ _ _ _ _ _ us hl => match us, hl with | [_, _], _ => rfl),
    def_mk X G a10 l10 c10 k10 (fun _ _ _ _ _ _ us hl => match us, hl with | [_], _ => rfl),
    def_mk X G a11 l11 c11 k11 (fun _ _ _ _ _ _ us hl => match us, hl with | [_, _, _, _], _ => rfl),
    def_mk X G a12 l12 c12 k12 (fun _ _ _ _ _ _ us hl => match us, hl with | [_, _], _ => rfl),
    def_mk X G a13 l13 c13 k13 (fun _ _ _ _ _ _ us hl => match us, hl with | [_], _ => rfl),
    def_mk X G a14 l14 c14 k14 (fun _ _ _ _ _ _ us hl => match us, hl with | [_], _ => rfl),
    def_mk X G a15 l15 c15 k15 (fun _ _ _ _ _ _ us hl => match us, hl with | [_], _ => rfl),
    def_mk X G a16 l16 c16 k16 (fun _ _ _ _ _ _ us hl => match us, hl with | [_], _ => rfl),
    def_mk X G a17 l17 c17 k17 (fun _ _ _ _ _ _ us hl => match us, hl with | [_], _ => rfl),
    def_mk X G a18 l18 c18 k18 (fun _ _ _ _ _ _ us hl => match us, hl with | [_], _ => rfl),
    def_mk X G a19 l19 c19 k19 (fun _ _ _ _ _ _ us hl => match us, hl with | [_], _ => rfl),
    def_mk X G a20 l20 c20 k20 (fun _ _ _ _ _ _ us hl => match us, hl with | [_, _], _ => rfl),
    def_mk X G a21 l21 c21 k21 (fun _ _ _ _ _ _ us hl => match us, hl with | [_], _ => rfl),
    PySem.W.mg_none_of X G z0,
    PySem.W.mg_none_of X G z1,
    PySem.W.mg_none_of X G z2,
    PySem.W.mg_none_of X G z3,
    PySem.W.mg_none_of X G z4,
    PySem.W.mg_none_of X G z5,
    PySem.W.mg_none_of X G z6,
    PySem.W.mg_none_of X G z7,
    PySem.W.mg_none_of X G z8,
    PySem.W.mg_none_of X G z9,
    PySem.W.mg_none_of X G z10,
    PySem.W.mg_none_of X G z11,
    const_mk X G y0 ⟨_, rfl⟩,
    const_mk X G y1 ⟨_, rfl⟩,
    const_mk X G y2 ⟨_, rfl⟩,
    ⟨ta3, ⟨_, PySem.W.mg_of X G y3, rfl⟩, fun _ => .inr ⟨_, _, _, w3, rfl, rfl, (by show 12 ≤ sizeLine; decide), .cons ⟨_, rfl⟩ (.cons ⟨_, rfl⟩ (.cons ⟨_, rfl⟩ (.cons ⟨_, rfl⟩ (.cons ⟨_, rfl⟩ (.cons ⟨_, rfl⟩ (.cons ⟨_, rfl⟩ (.cons ⟨_, rfl⟩ (.cons ⟨_, rfl⟩ (.cons ⟨_, rfl⟩ (.cons ⟨_, rfl⟩ (.cons ⟨_, rfl⟩ (.nil))))))))))))⟩⟩,
    by
      rw [atTop_of eC]
      have F := fun_mk (st := sInvalidTextu_initu) eLk eCd eKf
      exact ⟨fI, _, ⟨PySem.W.mg_of X G eC, ⟨⟨_, _, _, _, _, _, _, _, _, _, _, _, _, _, _, eX, by rfl⟩, eSa, eSb, eTy, eKp⟩, ⟨eGa, eGg, eSb, eHd⟩, ⟨eGa, eGg, eSb, eHd, eCc, eSp, eTk, eMo⟩, eIc, eNb, eIn, eTf⟩, F, F.binds (ps := ["self", "line"]) fun _ _ _ _ _ _ us hl => match us, hl with | [_, _], _ => rfl⟩,
    ⟨CL, ⟨_, PySem.W.mg_of X G eL, rfl⟩, by rw [atTop_of eC]; exact kit_refF eLi eLt eKl eSs⟩,
    ⟨CI, ⟨_, PySem.W.mg_of X G eI, rfl⟩, by rw [atTop_of eC]; exact kit_refF eIi eIt eKi eSs⟩,
    (by rw [atTop_of eC]; exact kit_refV eKv),
    (by rw [atTop_of eC]; exact exm_of eSb eIc eTy eSs),
    ⟨CR, PySem.W.mg_of X G eR, by rw [atTop_of eC]; exact exm_of eRb eRi eRt eRs⟩⟩
  have F := fun_mk (st := slaw) l21 c21 k21
  exact ⟨_, fun s v => .of_eq rfl, fun base _ _ => oklaw T ⟨F, F.binds (ps := ["script"]) fun _ _ _ _ _ _ us hl => match us, hl with | [_], _ => rfl, PySem.W.mg_of X G a21⟩⟩
end K05
open PySem PySem.W PyProof.Rows in
set_option maxRecDepth 100000 in
set_option maxHeartbeats 0 in
theorem PySem.Challenge.cw_redolots_k05_whole_wrong_texts_holds : PySem.Challenge.rw_redolots_k05_whole_wrong_texts.Holds := by
  w_on; o_law; k_head; (case hw => w_witness2)
  k_fill
  refine L2.walk_ofK (l := PySem.Challenge.rw_redolots_k05_whole_wrong_texts) (n := 63) (k := 6) (x := "script") (CX := L2.CX0) (sp := K05.splaw) rfl (by decide) rfl ⟨rfl, by decide, by decide⟩ (fun w h Y => PySem.W.kIn_of Y) ?F (fun K H a ns hl _ hS => ⟨a, ns, rfl, hS, hl, fun _ => rfl⟩) (fun _ _ _ _ z => z)
  case F =>
    intro w mg fa h KX G hmg
    refine' K05.all_mk KX G hmg ?a0 ?l0 ?c0 ?k0 ?a1 ?l1 ?c1 ?k1 ?a2 ?l2 ?c2 ?k2 ?a3 ?l3 ?c3 ?k3 ?a4 ?l4 ?c4 ?k4 ?a5 ?l5 ?c5 ?k5 ?a6 ?l6 ?c6 ?k6 ?a7 ?l7 ?c7 ?k7 ?a8 ?l8 ?c8 ?k8 ?a9 ?l9 ?c9 ?k9 ?a10 ?l10 ?c10 ?k10 ?a11 ?l11 ?c11 ?k11 ?a12 ?l12 ?c12 ?k12 ?a13 ?l13 ?c13 ?k13 ?a14 ?l14 ?c14 ?k14 ?a15 ?l15 ?c15 ?k15 ?a16 ?l16 ?c16 ?k16 ?a17 ?l17 ?c17 ?k17 ?a18 ?l18 ?c18 ?k18 ?a19 ?l19 ?c19 ?k19 ?a20 ?l20 ?c20 ?k20 ?a21 ?l21 ?c21 ?k21 ?z0 ?z1 ?z2 ?z3 ?z4 ?z5 ?z6 ?z7 ?z8 ?z9 ?z10 ?z11 ?y0 ?y1 ?y2 ?y3 ?w3 ?eC ?eL ?eI ?eR ?eX ?eSa ?eGa ?eGg ?eNb ?eIn ?eTf ?eLk ?eCd ?eKf ?eKp ?eSb ?eTy ?eHd ?eIc ?eSs ?eCc ?eSp ?eTk ?eMo ?eKl ?eKi ?eKv ?eLi ?eLt ?eIi ?eIt ?eRb ?eRi ?eRt ?eRs
    (case a0 => k_is)
    (case l0 => k_is)
    (case c0 => k_is)
    (case k0 => k_is)
    (case a1 => k_is)
    (case l1 => k_is)
    (case c1 => k_is)
    (case k1 => k_is)
    (case a2 => k_is)
    (case l2 => k_is)
    (case c2 => k_is)
    (case k2 => k_is)
    (case a3 => k_is)
    (case l3 => k_is)
    (case c3 => k_is)
    (case k3 => k_is)
    (case a4 => k_is)
    (case l4 => k_is)
    (case c4 => k_is)
    (case k4 => k_is)
    (case a5 => k_is)
    (case l5 => k_is)
    (case c5 => k_is)
    (case k5 => k_is)
    (case a6 => k_is)
    (case l6 => k_is)
    (case c6 => k_is)
    (case k6 => k_is)
    (case a7 => k_is)
    (case l7 => k_is)
    (case c7 => k_is)
    (case k7 => k_is)
    (case a8 => k_is)
    (case l8 => k_is)
    (case c8 => k_is)
    (case k8 => k_is)
    (case a9 => k_is)
    (case l9 => k_is)
    (case c9 => k_is)
    (case k9 => k_is)
    (case a10 => k_is)
    (case l10 => k_is)
    (case c10 => k_is)
    (case k10 => k_is)
    (case a11 => k_is)
    (case l11 => k_is)
    (case c11 => k_is)
    (case k11 => k_is)
    (case a12 => k_is)
    (case l12 => k_is)
    (case c12 => k_is)
    (case k12 => k_is)
    (case a13 => k_is)
    (case l13 => k_is)
    (case c13 => k_is)
    (case k13 => k_is)
    (case a14 => k_is)
    (case l14 => k_is)
    (case c14 => k_is)
    (case k14 => k_is)
    (case a15 => k_is)
    (case l15 => k_is)
    (case c15 => k_is)
    (case k15 => k_is)
    (case a16 => k_is)
    (case l16 => k_is)
    (case c16 => k_is)
    (case k16 => k_is)
    (case a17 => k_is)
    (case l17 => k_is)
    (case c17 => k_is)
    (case k17 => k_is)
    (case a18 => k_is)
    (case l18 => k_is)
    (case c18 => k_is)
    (case k18 => k_is)
    (case a19 => k_is)
    (case l19 => k_is)
    (case c19 => k_is)
    (case k19 => k_is)
    (case a20 => k_is)
    (case l20 => k_is)
    (case c20 => k_is)
    (case k20 => k_is)
    (case a21 => k_is)
    (case l21 => k_is)
    (case c21 => k_is)
    (case k21 => k_is)
    (case z0 => k_is)
    (case z1 => k_is)
    (case z2 => k_is)
    (case z3 => k_is)
    (case z4 => k_is)
    (case z5 => k_is)
    (case z6 => k_is)
    (case z7 => k_is)
    (case z8 => k_is)
    (case z9 => k_is)
    (case z10 => k_is)
    (case z11 => k_is)
    (case y0 => k_is)
    (case y1 => k_is)
    (case y2 => k_is)
    (case y3 => k_is)
    (case w3 => k_is)
    (case eC => k_is)
    (case eL => k_is)
    (case eI => k_is)
    (case eR => k_is)
    (case eX => k_is)
    (case eSa => k_is)
    (case eGa => k_is)
    (case eGg => k_is)
    (case eNb => k_is)
    (case eIn => k_is)
    (case eTf => k_is)
    (case eLk => k_is)
    (case eCd => k_is)
    (case eKf => k_is)
    (case eKp => k_is)
    (case eSb => k_is)
    (case eTy => k_is)
    (case eHd => k_is)
    (case eIc => k_is)
    (case eSs => k_is)
    (case eCc => k_is)
    (case eSp => k_is)
    (case eTk => k_is)
    (case eMo => k_is)
    (case eKl => k_is)
    (case eKi => k_is)
    (case eKv => k_is)
    (case eLi => k_is)
    (case eLt => k_is)
    (case eIi => k_is)
    (case eIt => k_is)
    (case eRb => k_is)
    (case eRi => k_is)
    (case eRt => k_is)
    (case eRs => k_is)
#print axioms PySem.Challenge.cw_redolots_k05_whole_wrong_texts_holds
