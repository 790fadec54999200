import PyProof.Rows.All
import Wide.All
import OpenK.AllK
import Wide.FinOn
import KE.GoesEnum
import HandS.Base
import HandS.Call
import HandS.List
import HandS.Comp
import HandS.Ends
import HandS.Dict
import HandS.Iter
import HandS.Text
import HandS.Words
import HandS.WordsList
import HandS.IsInst
import HandS.Walk
import HandS.Codes
import HandS.Conv
import HandS.FStr
import HandS.Text
import HandS.Codes
import KE.KUnpack
import PyProof.RulesMatch
import PyProof.RulesMatchSeq
import PyProof.Rows.MatchSeqLen
import KE.KExcIs
import HandS.Exc
import HandS.ExcInit
import HandS.ExcField
import HandS.ExcIs
import HandS.ExcOwn
import HandS.TryOnly
import HandS.WordsExc
import HandS.Star
import HandS.Defaults
import HandS.More
import HandS.TryMany
import HandS.CallSlots
import HandS.HotCalls
import HandS.Set
import HandS.Strs
import HandS.SetFor
import HandS.TupLen
import HandS.DictComp
import KE.KDictKeyed
import HandS.SetKeys
import HandS.SetBool
import HandS.TupMul
import HandS.Zip
import HandS.SetFor
import HandS.Remove
import HandS.Star
import KE.DatumOrd
import HandS.ExcIs
import HandS.ExcOwn
import HandS.DictTup
import HandS.Conv
import HandS.GenList
import HandS.Gcd
import KE.KMathGC
import HandS.TupMul
import PySem.Challenge.RW_redolots_k31_safe_goals
set_option Elab.async false
set_option linter.all false
set_option maxRecDepth 100000
set_option maxHeartbeats 4000000
/-! enumerate over a tracked tuple or a text, zip over two texts: walks of our own -/
namespace Rv
open PySem PySem.Spec PyProof.Rows L2

/-- an iterator that stands at it: n turns, turn i hands out what out says, as long as ok holds of the tracked heap -/
structure Feed (P : Program) (w : World) (K : PySem.W.Frag) (it : Addr) (n : Nat) (ok : Hp → Prop) (out : Nat → Option V) (st : Nat → Heap → Prop) : Prop where
  cell : ∀ i h, st i h → ∃ ob, h.get? it = some ob ∧ ∀ v, ob.data ≠ .cell v
  stay : ∀ i h1 h2, st i h1 → (∀ ob, h1.get? it = some ob → h2.get? it = some ob) → st i h2
  feed : ∀ (X : Cx), X.prog = P → X.w = w → X.K = K → X.calm = true → ∀ (pins : List (Addr × Obj)) (σ : L2.St) (H : Hp) (s : Shared), Inv X pins σ H s → ok H → H it = none →
    ∃ (fp : List Addr) (Pv : Nat → Value → Prop) (Sv : Nat → Heap → Prop), Draws X.prog X.w X.A.in1 it fp n Pv Sv ∧ (∀ i h, Sv i h → st i h) ∧ (∀ i, st i s.heap → Sv i s.heap) ∧
      (∀ i u, Pv i u → ∃ x, RelV x u ∧ out i = some x) ∧ ∀ b, b ≠ it → H b = none → b ∉ fp

theorem feed_text {P : Program} {w : World} {K : PySem.W.Frag} (it : Addr) (x : Str) (t : Tok) :
    Feed P w K it x.cps.size (fun _ => True) (fun i => (x.cps[i]?).map fun c => V.str ⟨#[c]⟩) (fun i h => h.IsStrIter it (strIterType x) x t i) where
  cell := fun i h q => by
    obtain ⟨ob, e1, e2, e3⟩ := q
    refine ⟨ob, e1, fun v z => ?_⟩
    rw [e3] at z
    cases z
  stay := fun i h1 h2 q k => by
    obtain ⟨ob, e1, e2⟩ := q
    exact ⟨ob, k ob e1, e2⟩
  feed := fun X hP hw hK hc pins σ H s I _ hn => by
    refine ⟨[it], _, _, Draws.text (A := X.A.in1) (show X.A.in1.handled = none from I.ok.hd hc) it x t, fun _ _ q => q, fun _ q => q, fun i u q => ?_, fun b hb _ hm => hb (by simpa using hm)⟩
    obtain ⟨c, tk, e1, e2⟩ := q
    exact ⟨.str ⟨#[c]⟩, ⟨tk, e2⟩, by rw [e1]; rfl⟩

theorem feed_tup {P : Program} {w : World} {K : PySem.W.Frag} (it a : Addr) (xs : List V) :
    Feed P w K it xs.length (fun H => H a = some (.tup xs)) (fun i => xs[i]?) (fun i h => h.IsTupleIter it a i) where
  cell := fun i h q => by
    obtain ⟨ob, e1, e2, e3⟩ := q
    refine ⟨ob, e1, fun v z => ?_⟩
    rw [e3] at z
    cases z
  stay := fun i h1 h2 q k => by
    obtain ⟨ob, e1, e2⟩ := q
    exact ⟨ob, k ob e1, e2⟩
  feed := fun X hP hw hK hc pins σ H s I hg hn => by
    obtain ⟨its, rv, hT, _⟩ := I.tuple (SqT.of (K := X.K) hg)
    have hl : its.toArray.size = xs.length := by
      rw [List.size_toArray]
      exact rv.length.symm
    have nai : a ≠ it := ne_of_none hg hn
    have D := Draws.tuple (prog := X.prog) (w := X.w) (A := X.A.in1) (show X.A.in1.handled = none from I.ok.hd hc) it a nai its.toArray
    rw [hl] at D
    refine ⟨[it, a], _, _, D, fun _ _ q => q.1, fun _ q => ⟨q, hT⟩, fun i u q => ?_, fun b hb hbn hm => ?_⟩
    · have q2 : its[i]? = some u := by simpa using q
      have hi : i < xs.length := by
        have := (List.getElem?_eq_some_iff.mp q2).1
        rw [rv.length]
        exact this
      obtain ⟨u', e1, r1⟩ := rv.get (List.getElem?_eq_getElem hi)
      rw [q2] at e1
      cases e1
      exact ⟨xs[i], r1, List.getElem?_eq_getElem hi⟩
    · rcases List.mem_cons.mp hm with z | z
      · exact hb z
      · have z2 : b = a := by simpa using z
        rw [z2, hg] at hbn
        cases hbn

/-- index and item in a new pair at each turn -/
def Jen (n : Nat) (ok : Hp → Prop) (out : Nat → Option V) : It :=
  ⟨fun i H => i < n ∧ ok H, fun i H v H' => ∃ T x, v = .ref T ∧ H T = none ∧ H' = upd H T (.tup [.int (i : Nat), x]) ∧ out i = some x, fun i H => i = n ∧ ok H⟩
theorem walk_jen {n : Nat} {ok : Hp → Prop} {out : Nat → Option V} : Walk (Jen n ok out) n ok (YPair (fun i => some (.int (i : Nat))) out) := by
  refine ⟨fun _ _ hi q => ⟨hi, q⟩, fun _ q => ⟨rfl, q⟩, fun i H v H' _ _ y => ?_⟩
  obtain ⟨T, x, a1, a2, a3, a4⟩ := y
  exact ⟨T, .int (i : Nat), x, a1, a2, a3, rfl, a4⟩

theorem turn_jen {P : Program} {w : World} {K : PySem.W.Frag} {elts : List Expr} {kk : Nat} {tp : Pos} {e it : Addr} {n : Nat} {ok : Hp → Prop} {out : Nat → Option V} {st : Nat → Heap → Prop}
    (F : Feed P w K it n ok out st) (hne : e ≠ it) :
    Turn P w K (.Tuple elts kk tp) (Jen n ok out) [e, it] e (fun i h => (∃ old, IsEnum h e it (0 + ((i : Nat) : Int)) old) ∧ st i h) where
  mem := List.mem_cons_self ..
  obj := fun i h q b hb => by
    obtain ⟨⟨old, he⟩, hs⟩ := q
    rcases List.mem_cons.mp hb with z | z
    · subst z
      exact ⟨_, he, fun v y => nomatch y⟩
    · have z2 : b = it := by simpa using z
      subst z2
      exact F.cell i h hs
  keep := fun i h1 h2 q k => by
    obtain ⟨⟨old, he⟩, hs⟩ := q
    exact ⟨⟨old, k e (by simp) _ he⟩, F.stay i h1 h2 hs fun ob => k it (by simp) ob⟩
  item := by
    intro X hP hw hK hc i pins s σ H E I hf q hg
    subst hP hw hK
    obtain ⟨⟨old, he⟩, hs⟩ := q
    have fe := hf e (by simp)
    have fi := hf it (by simp)
    obtain ⟨fp, Pv, Sv, D, back, go, val, off⟩ := F.feed X rfl rfl rfl hc pins σ H s I hg.2 fi.1
    refine wpAny_pyNext_enum_itemC D he (go i hs) hg.1 hne (off e hne fe.1) fun u h1 tk hu ho hs1 hT hsz hk => ?_
    obtain ⟨x, rx, ox⟩ := val i u hu
    refine ⟨_, rfl, wpAny_letOwnedTupleGo_enum (s := { s with heap := h1, toks := tk + 1 }) ho fun h2 he2 sb => ?_⟩
    have hel : e < s.heap.objs.size := Heap.lt_size he
    obtain ⟨oi, eoi, _⟩ := F.cell i s.heap hs
    have hil : it < s.heap.objs.size := Heap.lt_size eoi
    have hT2 : h2.get? s.heap.objs.size = some { cls := .type "tuple", data := .seq #[.int (0 + (i : Int)) tk, u] } := (sb.2 _ (Nat.ne_of_gt hel)).trans hT
    have kept : ∀ b ob, b ∉ [e, it] → s.heap.get? b = some ob → h2.get? b = some ob := fun b ob hb z => by
      have n1 : b ≠ e := fun y => hb (by rw [y]; simp)
      have n2 : b ≠ it := fun y => hb (by rw [y]; simp)
      exact (sb.2 b n1).trans (hk b ob n1 n2 z)
    have z0 : (0 + (i : Int)) = ((i : Nat) : Int) := by omega
    have fresh : ObjOk X.prog X.w (upd H s.heap.objs.size (.tup [.int (i : Nat), x])) h2 s.heap.objs.size (.tup [.int (i : Nat), x]) :=
      ⟨Nat.le_trans (show 2 ≤ 3 by decide) (by decide), [.int (0 + (i : Int)) tk, u], .cons ⟨tk, by rw [z0]⟩ (.cons rx .nil), ⟨_, hT2, rfl, _, rfl⟩⟩
    have I2 : Inv X pins σ (upd H s.heap.objs.size (.tup [.int (i : Nat), x])) { s with heap := h2, toks := tk + 1 } :=
      I.turnedNew (ch := [e, it]) kept hf (Nat.le_refl _) fresh
    refine ⟨.ref s.heap.objs.size, _, I2, rfl, ⟨_, x, rfl, I.hok.fresh (Nat.le_refl _), rfl, ox⟩, ⟨⟨u, ?_⟩, F.stay (i + 1) h1 h2 (back _ _ hs1) fun ob y => (sb.2 it hne.symm).trans y⟩, fun b hb => ?_⟩
    · have z1 : (0 + ((i + 1 : Nat) : Int)) = 0 + (i : Int) + 1 := by omega
      rw [z1]
      exact he2
    · have hb2 : b < s.heap.objs.size := by
        rcases List.mem_cons.mp hb with z | z
        · rw [z]; exact hel
        · rw [show b = it by simpa using z]; exact hil
      rw [upd_ne (Nat.ne_of_lt hb2)]
      exact (hf b hb).1
  done := by
    intro X hP hw hK hc i pins s σ H E I hf q hg
    subst hP hw hK
    obtain ⟨⟨old, he⟩, hs⟩ := q
    obtain ⟨rfl, hok⟩ := hg
    obtain ⟨f0, f1, f2, f3, f4, f5⟩ := hf it (by simp)
    obtain ⟨fp, Pv, Sv, D, back, go, val, off⟩ := F.feed X rfl rfl rfl hc pins σ H s I hok f0
    exact wpAny_pyNext_enum_endD D he (go _ hs) fun h1 eb => ⟨rfl, I.turned (t' := s.toks) (fun b ob hb y => eb b ob hb y) f0 f1 f3 f4 f5⟩
  self := fun A i s Q E q h => by
    obtain ⟨⟨old, he⟩, _⟩ := q
    exact wpAny_pyIter_enum he h

theorem en1 {v : Value} {o : Obj} {G : Heap → Prop} (B : Begins v o G) :
    Meets (Builtin.«enumerate.__new__» ⟨[.type "enumerate", v], []⟩) (fun _ R s => G s.heap ∧
      R (.ok (.ret (.ref (s.heap.push o).objs.size)))
        { s with heap := (s.heap.push o).push { cls := .type "enumerate", data := .fields #[.none, .bool false, .ref s.heap.objs.size, rawInt 0, .none, .none] } }) :=
  .of_wp fun prog w A R s h => by
    obtain ⟨hp, g, d, tk, os⟩ := s
    obtain ⟨h1, h⟩ := h
    have hsub := sub_enumerate
    have begun : ∀ {A' : Around} {E : Value → Shared → Prop} {Q : Value → Shared → Prop}, Q (.ref hp.objs.size) ⟨hp.push o, g, d, tk, os⟩ → wpAny (model prog w) A' (pyIter v) Q E ⟨hp, g, d, tk, os⟩ :=
      fun q => B.iter prog w _ _ ⟨hp, g, d, tk, os⟩ _ h1 q
    wp_walk using begun
    refine wpAny_stack_any fun stk => wpAny_pure ?_
    split
    · rename_i c _ _ _ _ _
      cases (c == Value.type "enumerate")
      all_goals (wp_walk using begun; exact ⟨_, rfl, h⟩)
    · wp_walk using begun
      exact ⟨_, rfl, h⟩
theorem enum1 {prog : Program} {w : World} {A : Around} {E : Value → Shared → Prop} {s : Shared} {v : Value} {o : Obj} {G : Heap → Prop} {Q : Value → Shared → Prop} (B : Begins v o G) (h1 : G s.heap)
    (h : ∀ h', IsEnum h' (s.heap.objs.size + 1) s.heap.objs.size 0 .none → h'.get? s.heap.objs.size = some o → (∀ b u, s.heap.get? b = some u → h'.get? b = some u) → Q (.ref (s.heap.objs.size + 1)) { s with heap := h' }) :
    wpAny (model prog w) A (call (.type "enumerate") [v]) Q E s := by
  refine callType_new F.called_enumerate (by decide) (F.typeCall_enumerate_1 _) (F.newCall_enumerate_1 _) (fun ob => F.args_object_init_2 ob _) F.entry_enumerate_new (en1 B) ⟨h1, ?_⟩
  have sz : (s.heap.push o).objs.size = s.heap.objs.size + 1 := Heap.size_push ..
  have here := Heap.get?_push_size (s.heap.push o) (o := { cls := .type "enumerate", data := .fields #[.none, .bool false, .ref s.heap.objs.size, rawInt 0, .none, .none] }) rfl
  rw [sz] at here
  show _ ∧ _
  rw [sz]
  exact ⟨⟨_, here, rfl⟩, h _ here (Heap.get?_push_of_some _ (Heap.get?_push_size _ B.free)) fun b u y => Heap.get?_push_of_some _ (Heap.get?_push_of_some _ y)⟩

def iEnT (ta : TA) : TI := fun σ H R => ta σ H fun vs H1 => ∃ a xs, vs = [.ref a] ∧ H1 a = some (.tup xs) ∧ R (Jen xs.length (fun H => H a = some (.tup xs)) (fun i => xs[i]?)) H1
theorem pi_enT {X : Cx} {e : Expr} {ta : TA} {p pos tpos : Pos} {elts : List Expr} {kk : Nat} (hg : Gl X "enumerate") (hm : X.mg "enumerate" = none) (ha : PA X [e] ta) (hs : starEach [e] X.env = [(false, eval e X.env)] := by rfl) :
    PI X (.Tuple elts kk tpos) (.Call (.Name "enumerate" p) [e] [] pos) (iEnT ta) := by
  refine ⟨fun pins s σ H R I h => Call_ (ld_blt I hg hm boot_enumerate (PyProof.Rows.callWith_type1 (thn (ha.run pos pins s σ H _ I h) fun us s1 q0 => ?_) hs rfl))⟩
  obtain ⟨vs, H1, I1, r1, a, xs, rfl, hT, q⟩ := q0
  cases r1 with
  | cons r rr =>
    cases rr
    cases r
    obtain ⟨its, rv, hI, _⟩ := I1.tuple (SqT.of (K := X.K) hT)
    refine enum1 (begins_tuple a its.toArray) hI fun h' he ho hk => wpAny_pyIter_enum he ?_
    have I2 : Inv X pins σ H1 { s1 with heap := h' } := I1.kept (t' := s1.toks) hk
    refine ⟨s1.heap.objs.size + 1, [s1.heap.objs.size + 1, s1.heap.objs.size], _, _, H1, rfl, I2, turn_jen (feed_tup s1.heap.objs.size a xs) (Nat.succ_ne_self _), ⟨⟨.none, he⟩, ⟨_, ho, rfl, rfl⟩⟩, fun b hb => ?_, q⟩
    have le : s1.heap.objs.size ≤ b := by
      rcases List.mem_cons.mp hb with z | z
      · rw [z]; exact Nat.le_succ _
      · rw [show b = s1.heap.objs.size by simpa using z]; exact Nat.le_refl _
    exact I1.fpOk le (I1.hok.fresh le)
def iEnS (ta : TA) : TI := fun σ H R => ta σ H fun vs H1 => ∃ x, vs = [.str x] ∧ R (Jen x.cps.size (fun _ => True) (fun i => (x.cps[i]?).map fun c => V.str ⟨#[c]⟩)) H1
theorem pi_enS {X : Cx} {e : Expr} {ta : TA} {p pos tpos : Pos} {elts : List Expr} {kk : Nat} (hg : Gl X "enumerate") (hm : X.mg "enumerate" = none) (ha : PA X [e] ta) (hs : starEach [e] X.env = [(false, eval e X.env)] := by rfl) :
    PI X (.Tuple elts kk tpos) (.Call (.Name "enumerate" p) [e] [] pos) (iEnS ta) := by
  refine ⟨fun pins s σ H R I h => Call_ (ld_blt I hg hm boot_enumerate (PyProof.Rows.callWith_type1 (thn (ha.run pos pins s σ H _ I h) fun us s1 q0 => ?_) hs rfl))⟩
  obtain ⟨vs, H1, I1, r1, x, rfl, q⟩ := q0
  cases r1 with
  | cons r rr =>
    cases rr
    obtain ⟨t, rfl⟩ := r
    refine enum1 (begins_text x t) trivial fun h' he ho hk => wpAny_pyIter_enum he ?_
    have I2 : Inv X pins σ H1 { s1 with heap := h' } := I1.kept (t' := s1.toks) hk
    refine ⟨s1.heap.objs.size + 1, [s1.heap.objs.size + 1, s1.heap.objs.size], _, _, H1, rfl, I2, turn_jen (feed_text s1.heap.objs.size x t) (Nat.succ_ne_self _), ⟨⟨.none, he⟩, ⟨_, ho, rfl, rfl⟩⟩, fun b hb => ?_, q⟩
    have le : s1.heap.objs.size ≤ b := by
      rcases List.mem_cons.mp hb with z | z
      · rw [z]; exact Nat.le_succ _
      · rw [show b = s1.heap.objs.size by simpa using z]; exact Nat.le_refl _
    exact I1.fpOk le (I1.hok.fresh le)

/-! zip of two texts -/
def sgn (x : Str) (i : Nat) : Option V := (x.cps[i]?).map fun c => V.str ⟨#[c]⟩
def Jzp (x y : Str) : It :=
  ⟨fun i _ => i < min x.cps.size y.cps.size, fun i H v H' => ∃ T a b, v = .ref T ∧ H T = none ∧ H' = upd H T (.tup [a, b]) ∧ sgn x i = some a ∧ sgn y i = some b, fun i _ => i = min x.cps.size y.cps.size⟩
theorem walk_jzp {x y : Str} : Walk (Jzp x y) (min x.cps.size y.cps.size) (fun _ => True) (YPair (sgn x) (sgn y)) :=
  ⟨fun _ _ hi _ => hi, fun _ _ => rfl, fun _ _ _ _ _ _ q => q⟩
theorem turn_jzp {P : Program} {w : World} {K : PySem.W.Frag} {elts : List Expr} {kk : Nat} {tp : Pos} {z TI TO i1 i2 : Addr} {x y : Str} {t1 t2 : Tok} (S : ZipSep2 z TI TO i1 i2 [i1] [i2]) :
    Turn P w K (.Tuple elts kk tp) (Jzp x y) [z, TI, TO, i1, i2] z (fun i h => IsZip h z TI TO .none ∧ IsTupOf2 h TI (.ref i1) (.ref i2) ∧ (∃ a b, IsTupOf2 h TO a b) ∧ h.IsStrIter i1 (strIterType x) x t1 i ∧ h.IsStrIter i2 (strIterType y) y t2 i) where
  mem := List.mem_cons_self ..
  obj := fun i h q c hc => by
    obtain ⟨hz, hTI, ⟨a, b, hTO⟩, ⟨o1, e1, _, d1⟩, ⟨o2, e2, _, d2⟩⟩ := q
    have cs : c = z ∨ c = TI ∨ c = TO ∨ c = i1 ∨ c = i2 := by simpa using hc
    rcases cs with k | k | k | k | k
    · subst k; exact ⟨_, hz, fun v n => nomatch n⟩
    · subst k; exact ⟨_, hTI, fun v n => nomatch n⟩
    · subst k; exact ⟨_, hTO, fun v n => nomatch n⟩
    · subst k; exact ⟨o1, e1, fun v n => by rw [d1] at n; cases n⟩
    · subst k; exact ⟨o2, e2, fun v n => by rw [d2] at n; cases n⟩
  keep := fun i h1 h2 q k => by
    obtain ⟨hz, hTI, ⟨a, b, hTO⟩, ⟨o1, e1, r1⟩, ⟨o2, e2, r2⟩⟩ := q
    exact ⟨k z (by simp) _ hz, k TI (by simp) _ hTI, ⟨a, b, k TO (by simp) _ hTO⟩, ⟨o1, k i1 (by simp) _ e1, r1⟩, ⟨o2, k i2 (by simp) _ e2, r2⟩⟩
  item := by
    intro X hP hw hK hc i pins s σ H E I hf q hg
    subst hP hw hK
    have hg : i < min x.cps.size y.cps.size := hg
    obtain ⟨hz, hTI, ⟨a, b, hTO⟩, s1, s2⟩ := q
    have hh : X.A.in1.handled = none := I.ok.hd hc
    have D1 := Draws.text (prog := X.prog) (w := X.w) hh i1 x t1
    have D2 := Draws.text (prog := X.prog) (w := X.w) hh i2 y t2
    refine wpAny_pyNext_zipD2_item S D1 D2 hz hTI hTO s1 s2 (by omega) (by omega) fun u1 u2 h1 tk hu1 hu2 hz1 hTO1 n1 n2 hT hsz hk => ?_
    obtain ⟨c1, k1, ec1, rfl⟩ := hu1
    obtain ⟨c2, k2, ec2, rfl⟩ := hu2
    refine ⟨_, rfl, wpAny_letOwnedTupleGo_zip (s := { s with heap := h1, toks := tk }) hz1 fun h2 hz2 sb => ?_⟩
    have hzl : z < s.heap.objs.size := Heap.lt_size hz
    have hT2 : h2.get? s.heap.objs.size = some { cls := .type "tuple", data := .seq #[.str ⟨#[c1]⟩ k1, .str ⟨#[c2]⟩ k2] } := (sb.2 _ (Nat.ne_of_gt hzl)).trans hT
    have fresh : ObjOk X.prog X.w (upd H s.heap.objs.size (.tup [.str ⟨#[c1]⟩, .str ⟨#[c2]⟩])) h2 s.heap.objs.size (.tup [.str ⟨#[c1]⟩, .str ⟨#[c2]⟩]) :=
      ⟨Nat.le_trans (show 2 ≤ 3 by decide) (by decide), [.str ⟨#[c1]⟩ k1, .str ⟨#[c2]⟩ k2], .cons ⟨k1, rfl⟩ (.cons ⟨k2, rfl⟩ .nil), ⟨_, hT2, rfl, _, rfl⟩⟩
    have kept : ∀ c ob, c ∉ [z, TI, TO, i1, i2] → s.heap.get? c = some ob → h2.get? c = some ob := fun c ob hb q => by
      have m1 : c ≠ z := fun k => hb (by rw [k]; simp)
      have m2 : c ≠ TO := fun k => hb (by rw [k]; simp)
      have m3 : c ≠ i1 := fun k => hb (by rw [k]; simp)
      have m4 : c ≠ i2 := fun k => hb (by rw [k]; simp)
      exact (sb.2 c m1).trans (hk c ob m1 m2 m3 m4 q)
    have I2 : Inv X pins σ (upd H s.heap.objs.size (.tup [.str ⟨#[c1]⟩, .str ⟨#[c2]⟩])) { s with heap := h2, toks := tk } :=
      I.turnedNew (ch := [z, TI, TO, i1, i2]) kept hf (Nat.le_refl _) fresh
    refine ⟨.ref s.heap.objs.size, _, I2, rfl, ⟨_, _, _, rfl, I.hok.fresh (Nat.le_refl _), rfl, by unfold sgn; rw [ec1]; rfl, by unfold sgn; rw [ec2]; rfl⟩, ⟨hz2, ?_, ⟨_, _, (sb.2 _ S.TOz).trans hTO1⟩, ?_, ?_⟩, fun c hcm => ?_⟩
    · exact (sb.2 _ S.TIz).trans (hk _ _ S.TIz S.TITO S.TIi1 S.TIi2 hTI)
    · obtain ⟨o1, e1, r1⟩ := n1
      exact ⟨o1, (sb.2 _ S.zi1.symm).trans e1, r1⟩
    · obtain ⟨o2, e2, r2⟩ := n2
      exact ⟨o2, (sb.2 _ S.zi2.symm).trans e2, r2⟩
    · have lt : c < s.heap.objs.size := by
        obtain ⟨o1, e1, _⟩ := s1
        obtain ⟨o2, e2, _⟩ := s2
        have cs : c = z ∨ c = TI ∨ c = TO ∨ c = i1 ∨ c = i2 := by simpa using hcm
        rcases cs with k | k | k | k | k
        · rw [k]; exact hzl
        · rw [k]; exact Heap.lt_size hTI
        · rw [k]; exact Heap.lt_size hTO
        · rw [k]; exact Heap.lt_size e1
        · rw [k]; exact Heap.lt_size e2
      rw [upd_ne (Nat.ne_of_lt lt)]
      exact (hf c hcm).1
  done := by
    intro X hP hw hK hc i pins s σ H E I hf q hg
    subst hP hw hK
    have hg : i = min x.cps.size y.cps.size := hg
    obtain ⟨hz, hTI, ⟨a, b, hTO⟩, s1, s2⟩ := q
    have hh : X.A.in1.handled = none := I.ok.hd hc
    have D1 := Draws.text (prog := X.prog) (w := X.w) hh i1 x t1
    have D2 := Draws.text (prog := X.prog) (w := X.w) hh i2 y t2
    refine wpAny_pyNext_zipD2_end S D1 D2 hz hTI hTO s1 s2 (by omega) (by omega) (by omega) fun h1 tk hk => ⟨rfl, I.turnedL (ch := [z, TI, TO, i1, i2]) (fun c ob hb q => ?_) hf⟩
    exact hk c ob (fun k => hb (by rw [k]; simp)) (fun k => hb (by rw [k]; simp)) (fun k => hb (by rw [k]; simp)) (fun k => hb (by rw [k]; simp)) q
  self := fun A i s Q E q h => wpAny_pyIter_zip q.1 h
def iZpS (ta : TA) : TI := fun σ H R => ta σ H fun vs H1 => ∃ x y, vs = [.str x, .str y] ∧ R (Jzp x y) H1
theorem pi_zpS {X : Cx} {e e2 : Expr} {ta : TA} {p pos tpos : Pos} {elts : List Expr} {kk : Nat} (hg : Gl X "zip") (hm : X.mg "zip" = none) (ha : PA X [e, e2] ta)
    (hs : starEach [e, e2] X.env = (false, eval e X.env) :: starEach [e2] X.env := by rfl) (hpl : (backTo pos (starEach [e2] X.env)).any (·.1) = false := by rfl) :
    PI X (.Tuple elts kk tpos) (.Call (.Name "zip" p) [e, e2] [] pos) (iZpS ta) := by
  refine ⟨fun pins s σ H R I h => Call_ (ld_blt I hg hm PyProof.Rows.boot_zip (PyProof.Rows.callWith_type1 (thn (ha.run pos pins s σ H _ I h) fun us s1 q0 => ?_) hs hpl))⟩
  obtain ⟨vs, H1, I1, r1, x, y, rfl, q⟩ := q0
  cases r1 with
  | cons r rr =>
    cases rr with
    | cons r2 rr =>
      cases rr
      obtain ⟨t1, rfl⟩ := r
      obtain ⟨t2, rfl⟩ := r2
      refine zip_begins2 (begins_text x t1) (begins_text y t2) trivial trivial fun h' hz hTI hTO g1 g2 hsz hk => wpAny_pyIter_zip hz ?_
      have I2 : Inv X pins σ H1 { s1 with heap := h' } := I1.kept (t' := s1.toks) hk
      have S := zip_sep2 (N := s1.heap.objs.size) (fp1 := []) (fp2 := []) (fun _ k => nomatch k) (fun _ k => nomatch k)
      refine ⟨s1.heap.objs.size + 4, [s1.heap.objs.size + 4, s1.heap.objs.size + 2, s1.heap.objs.size + 3, s1.heap.objs.size, s1.heap.objs.size + 1], _, _, H1, rfl, I2, turn_jzp S, ⟨hz, hTI, ⟨_, _, hTO⟩, ⟨_, g1, rfl, rfl⟩, ⟨_, g2, rfl, rfl⟩⟩, fun c hcm => ?_, q⟩
      have le : s1.heap.objs.size ≤ c := by
        have cs : c = s1.heap.objs.size + 4 ∨ c = s1.heap.objs.size + 2 ∨ c = s1.heap.objs.size + 3 ∨ c = s1.heap.objs.size ∨ c = s1.heap.objs.size + 1 := by simpa using hcm
        rcases cs with k | k | k | k | k <;> rw [k] <;> first | exact Nat.le_add_right _ _ | exact Nat.le_refl _
      exact I1.fpOk le (I1.hok.fresh le)
end Rv
/-! steps of a reading, one a piece; heaps; the bag of draws -/
namespace Rv
open PySem PySem.Spec PyProof.Rows L2

theorem pe_k {X : Cx} {x : Str} {v : V} {pos : Pos} (hg : Gl X x) (h : ∃ u, X.mg x = some u ∧ RelV v u) (hd : (x == ("__debug__" : Str)) = false := by decide) : PE X (.Name x pos) (tC v) := by
  obtain ⟨u, hm, r⟩ := h
  exact pe_glob hg hm r hd

/-- a def of the top: where it stands, how its arguments bind -/
structure Def (K : PySem.W.Frag) (mg : Str → Option Value) (x : Str) (st : Stmt) (ps : List Str) (f : Addr) (fd : FuncData) : Prop where
  F : Fun K x x st f fd
  b : Binds K fd ps []
  g : mg x = some (.ref f)
theorem def_mk {K : PySem.W.Frag} {h : Heap} {mg : Str → Option Value} {x : Str} {st : Stmt} {ps : List Str} {f : Addr} {oc : Value} {od an : Option Addr} {osl : Array (Option Value)} {kV doc pm cdv ct : Value} (X : K.In h) (G : h.Ns mainGlobals mg)
    (a : PySem.W.nsIn K mainGlobals x = some (some (.ref f))) (l : K.lookup f = some ⟨oc, od, .func (PySem.W.fnOf x x (defArgs st) (defBody st) (defScope st) .none kV doc pm an cdv ct), osl⟩)
    (c : PySem.W.codeIn K cdv x = true) (k : PySem.W.keepIn K (.ref f) = true)
    (hb : ∀ (kV doc pm : Value) (an : Option Addr) (cdv ct : Value) (us : List Value), us.length = ps.length → bindArgs (PySem.W.fnOf x x (defArgs st) (defBody st) (defScope st) .none kV doc pm an cdv ct) ⟨us, []⟩ = pure (ps.zip us)) : ∃ f fd, Def K mg x st ps f fd := by
  have F := fun_mk (st := st) l c k
  exact ⟨f, _, F, F.binds hb, PySem.W.mg_of X G a⟩
theorem const_mk {K : PySem.W.Frag} {h : Heap} {mg : Str → Option Value} {x : Str} {u : Value} {v : V} (X : K.In h) (G : h.Ns mainGlobals mg) (a : PySem.W.nsIn K mainGlobals x = some (some u)) (r : RelV v u) : ∃ u, mg x = some u ∧ RelV v u := ⟨u, PySem.W.mg_of X G a, r⟩

section
variable {σ : L2.St} {H : Hp} {i : Nat} {v x y : V} {ta tb te : TE} {b : Bool} {K : PySem.W.Frag} {t u c : TT} {Q : VK} {QB : Bool → Hp → Prop} {QA : List V → Hp → Prop} {D : Ends} {s1 s2 : TS} {tr : TA} {r : R2}
theorem rd_var (h : σ[i]? = some (some v)) (q : Q v H) : tVar i σ H Q := ⟨v, h, q⟩
theorem rd_c (q : Q v H) : tC v σ H Q := q
theorem rd_op (q : ta σ H fun x H1 => tb σ H1 fun y H2 => r x y H2 Q) : tOp r ta tb σ H Q := q
theorem rd_un {r : V → Hp → VK → Prop} (q : ta σ H fun x H1 => r x H1 Q) : tUn r ta σ H Q := q
theorem rd_U {g : Int → V} {a : Int} (q : Q (g a) H) : rU g (.int a) H Q := ⟨a, rfl, q⟩
theorem rd_I0 {g : Int → Int → V} {a b : Int} (q : Q (g a b) H) : rI0 g (.int a) (.int b) H Q := ⟨a, b, rfl, rfl, q⟩
theorem rd_I {C : Int → Int → Prop} {g : Int → Int → V} {a b : Int} (hc : C a b) (q : Q (g a b) H) : rI C g (.int a) (.int b) H Q := ⟨a, b, rfl, rfl, hc, q⟩
theorem rd_eq (h : scal x y = true) (q : Q (.bl (decide (x = y))) H) : rEq x y H Q := ⟨h, q⟩
theorem rd_ne (h : scal x y = true) (q : Q (.bl (!decide (x = y))) H) : rNe x y H Q := ⟨h, q⟩
theorem rd_k {P : Bool → Prop} (q : P b) : ∃ k, V.bl b = V.bl k ∧ P k := ⟨b, rfl, q⟩
theorem rd_test (q : te σ H fun x H' => ∃ k, x = .bl k ∧ QB k H') : tTest te σ H QB := q
theorem rd_B (q : te σ H fun x H' => ∃ k, x = .bl k ∧ QB k H') : tB te σ H QB := q
theorem rd_not (q : t σ H fun c H1 => QB (!c) H1) : tNot t σ H QB := q
theorem rd_notV (q : te σ H fun x H1 => ∃ c, x = .bl c ∧ Q (.bl (!c)) H1) : tNotV te σ H Q := q
theorem rd_and (q : t σ H fun c H1 => if c = true then u σ H1 QB else QB false H1) : tAnd t u σ H QB := q
theorem rd_or (q : t σ H fun c H1 => if c = true then QB true H1 else u σ H1 QB) : tOr t u σ H QB := q
theorem rd_andV (q : ta σ H fun x H1 => ∃ c, x = .bl c ∧ if c = true then tb σ H1 Q else Q (.bl false) H1) : tAndV ta tb σ H Q := q
theorem rd_orV (q : ta σ H fun x H1 => ∃ c, x = .bl c ∧ if c = true then Q (.bl true) H1 else tb σ H1 Q) : tOrV ta tb σ H Q := q
theorem rd_if (q : t σ H fun c H1 => if c = true then ta σ H1 Q else tb σ H1 Q) : tIf t ta tb σ H Q := q
theorem rd_chain {r' : R2} {tc : TE} (q : ta σ H fun x H1 => tb σ H1 fun y H2 => r x y H2 fun z H3 => ∃ k, z = .bl k ∧ if k = true then tc σ H3 fun w H4 => r' y w H4 Q else Q (.bl false) H3) : tChain r r' ta tb tc σ H Q := q
theorem rd_seq (q : s1 { D with nx := s2 D } σ H) : tSeq s1 s2 D σ H := q
theorem rd_next (q : D.nx σ H) : tNext D σ H := q
theorem rd_asg {g : TG} (q : te σ H fun x H1 => g x σ H1 D.nx) : tAsg te g D σ H := q
theorem rd_name {R : L2.St → Hp → Prop} (q : R (σ.set i (some v)) H) : gName i v σ H R := q
theorem rd_sub {to ti : TE} {ts : TSet} {R : L2.St → Hp → Prop} (q : to σ H fun o H1 => ti σ H1 fun i H2 => ts o i v H2 fun H3 => R σ H3) : gSub to ti ts v σ H R := q
theorem rd_gcons {g : TG} {gs : TGs} {R : L2.St → Hp → Prop} {vs : List V} (q : g v σ H fun σ' H' => gs vs σ' H' R) : gCons g gs (v :: vs) σ H R := ⟨v, vs, rfl, q⟩
theorem rd_gnil {R : L2.St → Hp → Prop} (q : R σ H) : gNil [] σ H R := ⟨rfl, q⟩
theorem rd_gtup {a : Addr} {xs : List V} {n : Nat} {gs : TGs} {R : L2.St → Hp → Prop} (h : H a = some (.tup xs)) (hn : xs.length = n) (q : gs xs σ H R) : gTup K n gs (.ref a) σ H R := ⟨a, xs, rfl, SqT.of h, hn, q⟩
theorem rd_ret (q : te σ H D.rt) : tRet te D σ H := q
theorem rd_drop (q : te σ H fun _ H1 => D.nx σ H1) : tDrop te D σ H := q
theorem rd_ifS (q : t σ H fun b H1 => if b = true then s1 D σ H1 else s2 D σ H1) : tIfS t s1 s2 D σ H := q
theorem rd_aug {ti : TIp} (h : σ[i]? = some (some v)) (q : te σ H fun y H1 => ti v y H1 fun z H2 => D.nx (σ.set i (some z)) H2) : tAug i te ti D σ H := ⟨v, h, q⟩
theorem rd_nil (q : QA [] H) : tNil σ H QA := q
theorem rd_cons (q : ta σ H fun x H1 => tr σ H1 fun xs H2 => QA (x :: xs) H2) : tCons ta tr σ H QA := q
theorem rd_CB {r : List V → Hp → VK → Prop} (q : tr σ H fun vs H1 => r vs H1 Q) : tCB r tr σ H Q := q
theorem rd_BM {Ty : String} {r : V → List V → Hp → VK → Prop} (q : ta σ H fun x H1 => tyV K Ty x H1 ∧ tr σ H1 fun xs H2 => r x xs H2 Q) : tBM K Ty r ta tr σ H Q := q
theorem rd_call {sp : Sp} {E : XK} (q : tr σ H fun vs H1 => sp vs H1 Q E) : tCall sp [] E tr σ H Q := by
  show tr σ H fun vs H1 => sp (vs ++ []) H1 Q E
  have e : (fun vs H1 => sp (vs ++ []) H1 Q E) = fun vs H1 => sp vs H1 Q E := by
    funext vs H1
    rw [List.append_nil]
  rw [e]
  exact q
theorem rd_tup (q : tr σ H fun xs H1 => xs.length ≤ sizeLine ∧ ∀ p, H1 p = none → Q (.ref p) (upd H1 p (.tup xs))) : tTup tr σ H Q := q
theorem rd_lst (q : tr σ H fun xs H1 => xs.length ≤ sizeLine ∧ ∀ p, H1 p = none → Q (.ref p) (upd H1 p (.lst xs))) : tLst tr σ H Q := q
theorem rd_ixL {p : Addr} {xs : List V} {a : Int} (h : SqL K H p xs) (e : atI xs a = some v) (q : Q v H) : rIxL K (.ref p) (.int a) H Q := ⟨p, xs, a, v, rfl, rfl, h, e, q⟩
theorem rd_ixT {p : Addr} {xs : List V} {a : Int} (h : H p = some (.tup xs)) (e : atI xs a = some v) (q : Q v H) : rIxT K (.ref p) (.int a) H Q := ⟨p, xs, a, v, rfl, rfl, SqT.of h, e, q⟩
theorem rd_ixS {z : Str} {a : Int} {c : Nat} (hz : z.length ≤ sizeLine) (e : atI z.cps.toList a = some c) (q : Q (.str ⟨#[c]⟩) H) : rIxS (.str z) (.int a) H Q := ⟨z, a, c, rfl, rfl, hz, e, q⟩
theorem rd_setL {p : Addr} {xs : List V} {a : Int} {j : Nat} {R : Hp → Prop} (h : H p = some (.lst xs)) (e : ixN xs.length a = some j) (q : R (upd H p (.lst (xs.set j v)))) : rSetL (.ref p) (.int a) v H R := ⟨p, xs, a, j, rfl, rfl, h, e, q⟩
/-- a new object: only that all stands as it stood, and where it is -/
theorem rd_new {p : Addr} {o : HO} {R : Hp → Prop} (np : H p = none) (q : ∀ H', Same H H' → H' p = some o → R H') : R (upd H p o) :=
  q _ (fun a u e => by rw [upd_ne (ne_of_none e np)]; exact e) upd_same
end

/-! built-in calls under names of their own -/
def rLenQ (K : PySem.W.Frag) : List V → Hp → VK → Prop := fun xs H Q => ∃ p ys, xs = [.ref p] ∧ (SqL K H p ys ∨ SqT K H p ys) ∧ Q (.int ys.length) H
def rLenZ : List V → Hp → VK → Prop := fun xs H Q => ∃ z, xs = [.str z] ∧ z.length ≤ sizeLine ∧ Q (.int z.length) H
def rIntQ : List V → Hp → VK → Prop := fun xs H Q => ∃ i, xs = [.int i] ∧ Q (.int i) H
def rAbsQ : List V → Hp → VK → Prop := fun xs H Q => ∃ i, xs = [.int i] ∧ Q (.int (if i < 0 then -i else i)) H
def rStrQ : List V → Hp → VK → Prop := fun xs H Q => ∃ i, xs = [.int i] ∧ i.natAbs.log2 < 1920 ∧ Q (.str (toString i)) H
def rTupQ (K : PySem.W.Frag) : List V → Hp → VK → Prop := fun xs H Q => ∃ p ys, xs = [.ref p] ∧ SqL K H p ys ∧ ∀ l, H l = none → Q (.ref l) (upd H l (.tup ys))
def rLstQ (K : PySem.W.Frag) : List V → Hp → VK → Prop := fun xs H Q => ∃ p ys, xs = [.ref p] ∧ (SqL K H p ys ∨ SqT K H p ys) ∧ ∀ l, H l = none → Q (.ref l) (upd H l (.lst ys))
def rMinQ : List V → Hp → VK → Prop := fun xs H Q => ∃ i j, xs = [.int i, .int j] ∧ Q (.int (if j < i then j else i)) H
def rSgnQ : R2 := fun x y H Q => ∃ (c : Nat) (z : Str), x = .str ⟨#[c]⟩ ∧ y = .str z ∧ Q (.bl (decide (c ∈ z.cps.toList))) H
section
variable {X : Cx}
theorem call_lenQ : CallR X (.builtin "len") (rLenQ X.K) := call_len_seq
theorem call_lenZ : CallR X (.builtin "len") rLenZ := call_len_str
theorem call_intQ : CallR X (.type "int") rIntQ := fun pins s σ H xs us Q I r h => call_int1 pins s σ H xs us Q I r (.inl h)
theorem call_absQ : CallR X (.builtin "abs") rAbsQ := call_abs
theorem call_strQ : CallR X (.type "str") rStrQ := call_str_int
theorem call_tupQ : CallR X (.type "tuple") (rTupQ X.K) := fun pins s σ H xs us Q I r h => call_tuple_of pins s σ H xs us Q I r (by
  obtain ⟨p, ys, e, h1, h2⟩ := h
  exact ⟨p, ys, e, .inl ⟨h1, h2⟩⟩)
theorem call_lstQ : CallR X (.type "list") (rLstQ X.K) := call_list_of
theorem call_minQ (hc : X.calm = true) : CallR X (.builtin "min") rMinQ := call_min2 hc
theorem op_sgnQ : OpR X (compareOp .In) rSgnQ := op_in_sign
end
section
variable {H H1 H2 : Hp} {p a : Addr} {xs : List V} {K : PySem.W.Frag} {Q : VK} {o : HO} {A B : Prop} {b : Bool}


theorem rd_ixM {v : V} {i : Int} (h : H p = some (.lst xs)) (e : atI xs i = some v) (q : Q v H) : rIxL K (.ref p) (.int i) H Q := ⟨p, xs, i, v, rfl, rfl, SqL.of h, e, q⟩

theorem rd_lenT (h : H p = some (.tup xs)) (q : Q (.int xs.length) H) : rLenQ K [.ref p] H Q := ⟨p, xs, rfl, .inr (SqT.of h), q⟩
theorem rd_lenL (h : H p = some (.lst xs)) (q : Q (.int xs.length) H) : rLenQ K [.ref p] H Q := ⟨p, xs, rfl, .inl (SqL.of h), q⟩
theorem rd_lenZ {z : Str} (hz : z.length ≤ sizeLine) (q : Q (.int z.length) H) : rLenZ [.str z] H Q := ⟨z, rfl, hz, q⟩
theorem rd_intQ {i : Int} (q : Q (.int i) H) : rIntQ [.int i] H Q := ⟨i, rfl, q⟩
theorem rd_absQ {i : Int} (q : Q (.int (if i < 0 then -i else i)) H) : rAbsQ [.int i] H Q := ⟨i, rfl, q⟩
theorem rd_minQ {i j : Int} (q : Q (.int (if j < i then j else i)) H) : rMinQ [.int i, .int j] H Q := ⟨i, j, rfl, q⟩
theorem rd_strQ {i : Int} (h0 : 0 ≤ i) (h1 : i < 10) (q : Q (.str (toString i)) H) : rStrQ [.int i] H Q := ⟨i, rfl, Nat.lt_of_le_of_lt (Nat.log2_le_self _) (by omega), q⟩
theorem rd_tupQ (h : H p = some (.lst xs)) (q : ∀ l, H l = none → Q (.ref l) (upd H l (.tup xs))) : rTupQ K [.ref p] H Q := ⟨p, xs, rfl, SqL.of h, q⟩
theorem rd_lstL (h : H p = some (.lst xs)) (q : ∀ l, H l = none → Q (.ref l) (upd H l (.lst xs))) : rLstQ K [.ref p] H Q := ⟨p, xs, rfl, .inl (SqL.of h), q⟩
theorem rd_sgn {c : Nat} {z : Str} (q : Q (.bl (decide (c ∈ z.cps.toList))) H) : rSgnQ (.str ⟨#[c]⟩) (.str z) H Q := ⟨c, z, rfl, rfl, q⟩
theorem rd_isiT {T : String} (h : H p = some (.tup xs)) (e : kitB "tuple" T = some b) (q : Q (.bl b) H) : rIsi K [.ref p, .ty T] H Q := ⟨_, _, _, _, b, rfl, .ty T, .base (.tup h), kit_ty e, q⟩
theorem rd_isiL {T : String} (h : H p = some (.lst xs)) (e : kitB "list" T = some b) (q : Q (.bl b) H) : rIsi K [.ref p, .ty T] H Q := ⟨_, _, _, _, b, rfl, .ty T, .base (.lst h), kit_ty e, q⟩
theorem rd_isiI {T : String} {i : Int} (e : kitB "int" T = some b) (q : Q (.bl b) H) : rIsi K [.int i, .ty T] H Q := ⟨_, _, _, _, b, rfl, .ty T, .base (.int i), kit_ty e, q⟩
theorem rd_isiS {T : String} {z : Str} (e : kitB "str" T = some b) (q : Q (.bl b) H) : rIsi K [.str z, .ty T] H Q := ⟨_, _, _, _, b, rfl, .ty T, .base (.str z), kit_ty e, q⟩
theorem rd_isiB {T : String} {c : Bool} (e : kitB "bool" T = some b) (q : Q (.bl b) H) : rIsi K [.bl c, .ty T] H Q := ⟨_, _, _, _, b, rfl, .ty T, .base (.bl c), kit_ty e, q⟩
theorem kit_tt : kitB "tuple" "tuple" = some true := by decide +kernel
theorem kit_ll : kitB "list" "list" = some true := by decide +kernel
theorem kit_ii : kitB "int" "int" = some true := by decide +kernel
theorem kit_ib : kitB "int" "bool" = some false := by decide +kernel
theorem kit_ss : kitB "str" "str" = some true := by decide +kernel
theorem kit_bb : kitB "bool" "bool" = some true := by decide +kernel
theorem kit_bi : kitB "bool" "int" = some true := by decide +kernel
theorem iteNT (h : B) : if (!true) = true then A else B := h
theorem iteNF (h : A) : if (!false) = true then A else B := h
theorem iteD {c : Prop} [Decidable c] (hc : c) (h : A) : if decide c = true then A else B := by
  rw [decide_eq_true hc]
  exact iteT h
theorem iteE {c : Prop} [Decidable c] (hc : ¬ c) (h : B) : if decide c = true then A else B := by
  rw [decide_eq_false hc]
  exact iteF h
theorem iteN2 {c : Prop} [Decidable c] (hc : ¬ c) (h : A) : if (!decide c) = true then A else B := by
  rw [decide_eq_false hc]
  exact h
theorem back (S : Same H1 H2) (h : H1 p = some o) : H2 p = some o := S _ _ h
theorem sxx {a b : Nat} : (V.str ⟨#[a]⟩ = V.str ⟨#[b]⟩) ↔ a = b :=
  ⟨fun k => by
    have q := congrArg (fun z : Str => z.cps.toList) (V.str.inj k)
    simpa using q, fun k => by rw [k]⟩
end

section
variable {σ : L2.St} {H : Hp} {K : PySem.W.Frag} {Q : VK} {tb te : TE} {D p : Addr} {xs : List V}
theorem rd_yes {QB : Bool → Hp → Prop} (q : QB true H) : tYes σ H QB := q

theorem rd_all {bs : List Bool} (h : H p = some (.lst (bs.map V.bl))) (q : Q (.bl (bs.all id)) H) : rAll K [.ref p] H Q := ⟨p, bs, rfl, SqL.of h, q⟩
theorem rd_M1 {r : V → List V → Hp → VK → Prop} {z : Str} (q : te σ H fun y H2 => r (.str z) [y] H2 Q) : tM1 r (tC (.str z)) te σ H Q := ⟨⟨z, rfl⟩, q⟩



/-- a list's append, the list an own one -/
theorem rd_app {y : V} (h : H p = some (.lst xs)) (hz : xs.length < 1000) (q : Q .non (upd H p (.lst (xs ++ [y])))) : rAppend (.ref p) [y] H Q := ⟨p, xs, y, rfl, rfl, h, small1000 (by omega), q⟩
theorem rd_BML {t : TA} {to : TE} {r : V → List V → Hp → VK → Prop} (q : to σ H fun x H1 => (∃ p xs, x = .ref p ∧ H1 p = some (.lst xs)) ∧ t σ H1 fun vs H2 => r x vs H2 Q) (m : ∀ σ H (Q1 Q2 : VK), (∀ x H, Q1 x H → Q2 x H) → to σ H Q1 → to σ H Q2) : tBM K "list" r to t σ H Q :=
  m σ H _ _ (fun x H1 q => by
    obtain ⟨⟨p, xs, rfl, h⟩, q2⟩ := q
    exact ⟨.inl ⟨rfl, _, SqL.of h⟩, q2⟩) q
theorem rd_BMv {t : TA} {i : Nat} {r : V → List V → Hp → VK → Prop} (hv : σ[i]? = some (some (.ref p))) (h : H p = some (.lst xs)) (q : t σ H fun vs H2 => r (.ref p) vs H2 Q) : tBM K "list" r (tVar i) t σ H Q :=
  ⟨.ref p, hv, .inl ⟨rfl, _, SqL.of h⟩, q⟩
end
/-! loops and comprehensions under names of their own -/
def Fr (J : It) (g : TG) (tb : TS) (D : Ends) (σ : L2.St) (H : Hp) : Prop :=
  ∃ W : Nat → Nat → L2.St → Hp → Prop, (∃ m, W 0 m σ H) ∧ ∀ i m σ H, W i m σ H →
    (J.stop i H ∧ D.nx σ H) ∨ (J.go i H ∧ ∃ N : L2.St → Hp → Prop, (∀ σ' H', N σ' H' → ∃ m', m' < m ∧ W (i + 1) m' σ' H') ∧ ∀ x H', J.yld i H x H' → g x σ H' fun σ2 H2 => tb { D with nx := N, ct := N, bk := D.nx } σ2 H2)
def Lc (J : It) (g : TG) (tt : TT) (te : TE) (vs : List Nat) (σ : L2.St) (H0 : Hp) (Q : VK) : Prop :=
  ∀ D, H0 D = none → ∃ W : Nat → Nat → Hp → Prop, (∃ m, W 0 m (upd H0 D (.lst []))) ∧ ∀ i m H, W i m H →
    (J.stop i H ∧ Q (.ref D) H) ∨ (J.go i H ∧ ∃ Nx : Hp → Prop, (∀ H', Nx H' → ∃ m', m' < m ∧ W (i + 1) m' H') ∧ ∀ x H', J.yld i H x H' → g x (wipe σ vs) H' fun σ2 H2 => wipe σ2 vs = wipe σ vs ∧ tt σ2 H2 fun b H3 =>
      if b = true then te σ2 H3 fun y H4 => ∃ acc, H4 D = some (.lst acc) ∧ acc.length < sizeLine ∧ Nx (upd H4 D (.lst (acc ++ [y]))) else Nx H3)
def ItT (K : PySem.W.Frag) (R : It → Hp → Prop) (x : V) (H : Hp) : Prop := ∃ a, x = .ref a ∧ (∃ xs, SqT K H a xs) ∧ R (Itt K a) H
def ItL (K : PySem.W.Frag) (R : It → Hp → Prop) (x : V) (H : Hp) : Prop := ∃ a, x = .ref a ∧ (∃ xs, SqL K H a xs) ∧ R (Itl K a) H
def EnT (R : It → Hp → Prop) (vs : List V) (H : Hp) : Prop := ∃ a xs, vs = [.ref a] ∧ H a = some (.tup xs) ∧ R (Jen xs.length (fun H => H a = some (.tup xs)) (fun i => xs[i]?)) H
def EnS (R : It → Hp → Prop) (vs : List V) (H : Hp) : Prop := ∃ x, vs = [.str x] ∧ R (Jen x.cps.size (fun _ => True) (fun i => (x.cps[i]?).map fun c => V.str ⟨#[c]⟩)) H
def ZpS (R : It → Hp → Prop) (vs : List V) (H : Hp) : Prop := ∃ x y, vs = [.str x, .str y] ∧ R (Jzp x y) H
def Rg1 (R : It → Hp → Prop) (vs : List V) (H : Hp) : Prop := ∃ j : Int, vs = [.int j] ∧ -(2 ^ 62) ≤ j ∧ j < 2 ^ 62 ∧ R (Itr 0 j.toNat) H
section
variable {σ : L2.St} {H : Hp} {K : PySem.W.Frag} {Q : VK} {te : TE} {tr : TA} {p : Addr} {xs : List V} {wi : TI} {g : TG} {tt : TT} {vs : List Nat} {tb : TS} {D : Ends} {R : It → Hp → Prop}
theorem rd_for (q : wi σ H fun J H1 => Fr J g tb D σ H1) : tFor wi g tb D σ H := q
theorem rd_lc (q : wi σ H fun J H1 => Lc J g tt te vs σ H1 Q) : tLc wi g tt te vs σ H Q := q
theorem rd_iTup (q : te σ H fun x H1 => ItT K R x H1) : iTup K te σ H R := q
theorem rd_iList (q : te σ H fun x H1 => ItL K R x H1) : iList K te σ H R := q
theorem rd_iEnT (q : tr σ H fun vs H1 => EnT R vs H1) : iEnT tr σ H R := q
theorem rd_iEnS (q : tr σ H fun vs H1 => EnS R vs H1) : iEnS tr σ H R := q
theorem rd_iZpS (q : tr σ H fun vs H1 => ZpS R vs H1) : iZpS tr σ H R := q
theorem rd_iRg1 (q : tr σ H fun vs H1 => Rg1 R vs H1) : iRng1 tr σ H R := q
theorem rd_ItT (h : H p = some (.tup xs)) (q : R (Itt K p) H) : ItT K R (.ref p) H := ⟨p, rfl, ⟨xs, SqT.of h⟩, q⟩
theorem rd_ItL (h : H p = some (.lst xs)) (q : R (Itl K p) H) : ItL K R (.ref p) H := ⟨p, rfl, ⟨xs, SqL.of h⟩, q⟩
theorem rd_EnT (h : H p = some (.tup xs)) (q : R (Jen xs.length (fun H => H p = some (.tup xs)) (fun i => xs[i]?)) H) : EnT R [.ref p] H := ⟨p, xs, rfl, h, q⟩
theorem rd_EnS {x : Str} (q : R (Jen x.cps.size (fun _ => True) (fun i => (x.cps[i]?).map fun c => V.str ⟨#[c]⟩)) H) : EnS R [.str x] H := ⟨x, rfl, q⟩
theorem rd_ZpS {x y : Str} (q : R (Jzp x y) H) : ZpS R [.str x, .str y] H := ⟨x, y, rfl, q⟩
theorem rd_Rg1 {j : Int} (h : -100000 ≤ j ∧ j ≤ 100000) (q : R (Itr 0 j.toNat) H) : Rg1 R [.int j] H := ⟨j, rfl, by omega, by omega, q⟩
end
theorem fr_it {J : It} {n : Nat} {G : Hp → Prop} {Y : Nat → Hp → V → Hp → Prop} (w : Walk J n G Y) {g : TG} {tb : TS} {D : Ends} {σ : L2.St} {H : Hp} (Pv : Nat → L2.St → Hp → Prop) (h0 : Pv 0 σ H) (hG : ∀ i σ H, i ≤ n → Pv i σ H → G H)
    (hs : ∀ i x σ H H', i < n → Pv i σ H → Y i H x H' → g x σ H' fun σ2 H2 => tb { D with nx := Pv (i + 1), ct := Pv (i + 1), bk := D.nx } σ2 H2) (hd : ∀ σ H, Pv n σ H → D.nx σ H) : Fr J g tb D σ H := for_it w Pv h0 hG hs hd
theorem fr_rng {lo : Int} {n : Nat} {g : TG} {tb : TS} {D : Ends} {σ : L2.St} {H : Hp} (Pv : Nat → L2.St → Hp → Prop) (h0 : Pv 0 σ H)
    (hs : ∀ i σ H, i < n → Pv i σ H → g (.int (lo + i)) σ H fun σ2 H2 => tb { D with nx := Pv (i + 1), ct := Pv (i + 1), bk := D.nx } σ2 H2) (hd : ∀ σ H, Pv n σ H → D.nx σ H) : Fr (Itr lo n) g tb D σ H := for_range Pv h0 hs hd
/-- a comprehension whose items are told beforehand: ys -/
theorem lc_map {J : It} {n : Nat} {G : Hp → Prop} {Y : Nat → Hp → V → Hp → Prop} (w : Walk J n G Y) {g : TG} {tt : TT} {te : TE} {vs : List Nat} {σ : L2.St} {H0 : Hp} {Q : VK} (ys : List V) (hn : ys.length = n) (sm : n ≤ 1000)
    (hG : ∀ H, Same H0 H → G H)
    (hs : ∀ i x H H' (Qc : VK) (R : Hp → Prop), i < n → Same H0 H → Y i H x H' → (∀ y H4, Same H H4 → ys[i]? = some y → Qc y H4) →
      g x (wipe σ vs) H' fun σ2 H2 => wipe σ2 vs = wipe σ vs ∧ tt σ2 H2 fun b H3 => if b = true then te σ2 H3 Qc else R H3)
    (hd : ∀ H D, Same H0 H → H0 D = none → H D = some (.lst ys) → Q (.ref D) H) : Lc J g tt te vs σ H0 Q := fun D nD =>
  lc_it w (Qd := fun H => Q (.ref D) H) (fun i H => Same H0 H ∧ H D = some (.lst (ys.take i))) ⟨fun a o e => by rw [upd_ne (ne_of_none e nD)]; exact e, upd_same⟩ (fun i H _ p => hG H p.1)
    (fun i x H H' hi p y => hs i x H H' _ _ hi p.1 y fun z H4 S ez => by
      refine ⟨ys.take i, S _ _ p.2, small1000 (by rw [List.length_take]; omega), fun a o e => ?_, ?_⟩
      · rw [upd_ne (ne_of_none e nD)]
        exact S _ _ (p.1 _ _ e)
      · rw [upd_same, List.take_add_one, ez]
        rfl)
    (fun H p => hd H D p.1 nD (by rw [p.2, List.take_of_length_le (by omega)]))
theorem fr_rng0 {n : Nat} {g : TG} {tb : TS} {D : Ends} {σ : L2.St} {H : Hp} (Pv : Nat → L2.St → Hp → Prop) (h0 : Pv 0 σ H)
    (hs : ∀ (i : Nat) σ H, i < n → Pv i σ H → g (.int (i : Int)) σ H fun σ2 H2 => tb { D with nx := Pv (i + 1), ct := Pv (i + 1), bk := D.nx } σ2 H2) (hd : ∀ σ H, Pv n σ H → D.nx σ H) : Fr (Itr 0 n) g tb D σ H :=
  for_range Pv h0 (fun i σ H hi p => by
    have q := hs i σ H hi p
    rw [← Int.zero_add (i : Int)] at q
    exact q) hd
theorem rd_sl {r : V → Option Int → Option Int → Hp → VK → Prop} {te : TE} {tl th : TO} {σ : L2.St} {H : Hp} {Q : VK} (q : te σ H fun x H1 => tl σ H1 fun l H2 => th σ H2 fun u H3 => r x l u H3 Q) : tSl r te tl th σ H Q := q
theorem rd_noP {σ : L2.St} {H : Hp} {QO : Option Int → Hp → Prop} (q : QO none H) : tNoPart σ H QO := q
theorem rd_part {t : TE} {σ : L2.St} {H : Hp} {QO : Option Int → Hp → Prop} (q : t σ H fun x H1 => ∃ i, x = .int i ∧ QO (some i) H1) : tPart t σ H QO := q
theorem rd_i {i : Int} {P : Int → Prop} (q : P i) : ∃ k, V.int i = V.int k ∧ P k := ⟨i, rfl, q⟩
theorem rd_slL {K : PySem.W.Frag} {p : Addr} {xs : List V} {lo hi : Option Int} {H : Hp} {Q : VK} (h : SqL K H p xs) (q : ∀ l, H l = none → Q (.ref l) (upd H l (.lst (cutV xs lo hi)))) : rSlL K (.ref p) lo hi H Q := ⟨p, xs, rfl, h, q⟩
/-- a comprehension over a range -/
theorem walk_rng {n : Nat} : Walk (Itr 0 n) n (fun _ => True) (fun i H x H' => H' = H ∧ x = .int (i : Nat)) :=
  (walk_range (lo := 0)).mono (fun _ _ => trivial) fun i H x H' _ _ y => ⟨y.1, by rw [y.2]; show V.int (0 + (i : Int)) = _; rw [Int.zero_add]⟩
theorem new_gen {H : Hp} {p : Addr} (o : HO) (np : H p = none) : ∃ H', H' = upd H p o ∧ Same H H' ∧ H' p = some o := ⟨_, rfl, fun a u e => by rw [upd_ne (ne_of_none e np)]; exact e, upd_same⟩
theorem len1000 {xs : List V} (h : xs.length ≤ 1000) : xs.length ≤ sizeLine := Nat.le_of_lt (small1000 h)
theorem same_new {H0 H : Hp} {p : Addr} {o : HO} (S : Same H0 H) (np : H p = none) : Same H0 (upd H p o) := fun a u e => by
  have e2 := S a u e
  rw [upd_ne (ne_of_none e2 np)]
  exact e2
theorem same_mut {H0 H : Hp} {p : Addr} {o : HO} (S : Same H0 H) (np : H0 p = none) : Same H0 (upd H p o) := fun a u e => by
  rw [upd_ne (ne_of_none e np)]
  exact S a u e
theorem atI_int {α : Type} {xs : List α} {a : Int} (h0 : 0 ≤ a) (h1 : a < xs.length) : ∃ v, atI xs a = some v ∧ xs[a.toNat]? = some v ∧ v ∈ xs := by
  have hj : a.toNat < xs.length := by omega
  refine ⟨xs[a.toNat], ?_, List.getElem?_eq_getElem hj, List.getElem_mem hj⟩
  have e : a = ((a.toNat : Nat) : Int) := by omega
  have q := atI_nat (xs := xs) (j := a.toNat) (List.getElem?_eq_getElem hj)
  rw [← e] at q
  exact q
theorem atI_get {α : Type} {xs : List α} {j : Nat} (h : j < xs.length) : atI xs (j : Int) = some xs[j] := atI_nat (List.getElem?_eq_getElem h)
theorem ixN_of {n : Nat} {a : Int} {j : Nat} (e : a = (j : Int)) (h : j < n) : ixN n a = some j := by
  subst e
  unfold ixN
  rw [if_pos (by omega), if_pos (by omega), Int.toNat_natCast]

theorem fmod_in {a m : Int} (h : 0 < m) : 0 ≤ a.fmod m ∧ a.fmod m < m := by
  rw [Int.fmod_eq_emod_of_nonneg _ (by omega)]
  exact ⟨Int.emod_nonneg _ (by omega), Int.emod_lt_of_pos _ h⟩
/-! the bag of draws: at c the script's cells, at b [cells, place, buffer, seed, count] -/
def Bag (c : Addr) (ns : List Int) (b : Addr) (H : Hp) : Prop :=
  c ≠ b ∧ H c = some (.lst (ns.map V.int)) ∧ ∃ i buf seed cnt : Int, H b = some (.lst [.ref c, .int i, .int buf, .int seed, .int cnt]) ∧ 0 ≤ i
structure Wd (c : Addr) (ns : List Int) (b : Addr) (H0 H : Hp) : Prop where
  keep : ∀ a o, a ≠ b → H0 a = some o → H a = some o
  b0 : Bag c ns b H0
  b1 : Bag c ns b H
section
variable {c b p a : Addr} {ns : List Int} {H0 H H1 H2 : Hp} {o : HO} {xs : List V}
theorem Bag.ne (B : Bag c ns b H) (np : H p = none) : p ≠ b := fun e => by
  obtain ⟨_, _, i, bu, se, cn, e1, _⟩ := B
  rw [← e, np] at e1
  cases e1
theorem Bag.nec (B : Bag c ns b H) (np : H p = none) : p ≠ c := fun e => by
  obtain ⟨_, e1, _⟩ := B
  rw [← e, np] at e1
  cases e1
theorem Bag.upd (B : Bag c ns b H) (n1 : p ≠ b) (n2 : p ≠ c) : Bag c ns b (upd H p o) := by
  obtain ⟨h0, h1, i, bu, se, cn, e1, e2⟩ := B
  exact ⟨h0, by rw [upd_ne n2.symm]; exact h1, i, bu, se, cn, by rw [upd_ne n1.symm]; exact e1, e2⟩
theorem Bag.same (B : Bag c ns b H) (S : Same H H1) : Bag c ns b H1 := by
  obtain ⟨h0, h1, i, bu, se, cn, e1, e2⟩ := B
  exact ⟨h0, S _ _ h1, i, bu, se, cn, S _ _ e1, e2⟩
theorem Wd.refl (B : Bag c ns b H) : Wd c ns b H H := ⟨fun _ _ _ h => h, B, B⟩
theorem Wd.trans (w : Wd c ns b H0 H1) (w2 : Wd c ns b H1 H2) : Wd c ns b H0 H2 := ⟨fun a o n h => w2.keep a o n (w.keep a o n h), w.b0, w2.b1⟩
theorem Wd.ofSame (B : Bag c ns b H) (S : Same H H1) : Wd c ns b H H1 := ⟨fun a o _ h => S a o h, B, B.same S⟩
theorem Wd.same (w : Wd c ns b H0 H1) (S : Same H1 H2) : Wd c ns b H0 H2 := w.trans (.ofSame w.b1 S)
theorem Wd.free (w : Wd c ns b H0 H) (np : H p = none) : H0 p = none := by
  cases e : H0 p with
  | none => rfl
  | some o =>
    have n := w.b1.ne np
    rw [w.keep p o n e] at np
    cases np
theorem Wd.tup (w : Wd c ns b H0 H) (h : H0 a = some (.tup xs)) : H a = some (.tup xs) := by
  refine w.keep a _ (fun e => ?_) h
  obtain ⟨_, _, i, bu, se, cn, e1, _⟩ := w.b0
  rw [e, e1] at h
  cases h
theorem Wd.lst (w : Wd c ns b H0 H) (n : a ≠ b) (h : H0 a = some o) : H a = some o := w.keep a o n h
theorem Wd.put {i bu se cn : Int} (w : Wd c ns b H0 H) (h0 : 0 ≤ i) : Wd c ns b H0 (upd H b (.lst [.ref c, .int i, .int bu, .int se, .int cn])) :=
  ⟨fun a u n h => by rw [upd_ne n]; exact w.keep a u n h, w.b0, by
    obtain ⟨n0, n1, _⟩ := w.b1
    exact ⟨n0, by rw [upd_ne n0]; exact n1, i, bu, se, cn, upd_same, h0⟩⟩
theorem Wd.new (w : Wd c ns b H0 H) (np : H p = none) : Wd c ns b H0 (upd H p o) :=
  ⟨fun a u n h => by have q := w.keep a u n h; rw [upd_ne (ne_of_none q np)]; exact q, w.b0, w.b1.upd (w.b1.ne np) (w.b1.nec np)⟩
theorem Wd.mut (w : Wd c ns b H0 H) (np : H0 p = none) : Wd c ns b H0 (upd H p o) :=
  ⟨fun a u n h => by rw [upd_ne (ne_of_none h np)]; exact w.keep a u n h, w.b0, w.b1.upd (w.b0.ne np) (w.b0.nec np)⟩
end
/-! a list of ints against the empty list -/
theorem dp_ints {K : PySem.W.Frag} {H : Hp} : ∀ fs : List Int, DpAll K H (fs.map V.int) (fs.map PyData.int)
  | [] => .nil
  | x :: r => .cons (.int x) (dp_ints r)
theorem lay_ints : ∀ fs : List Int, PyData.canLayAll0 (fs.map PyData.int) = true ∧ PyData.depthAll (fs.map PyData.int) = 0
  | [] => ⟨rfl, rfl⟩
  | x :: r => by
    obtain ⟨h1, h2⟩ := lay_ints r
    constructor
    · show (PyData.canLay0 (.int x) && PyData.canLayAll0 (r.map PyData.int)) = true
      rw [h1]
      rfl
    · show max (PyData.depth (.int x)) (PyData.depthAll (r.map PyData.int)) = 0
      rw [h2]
      rfl
theorem shaped_ints (fs : List Int) : SeqAt.shaped (.list (fs.map PyData.int)) = true := by
  obtain ⟨h1, h2⟩ := lay_ints fs
  unfold SeqAt.shaped
  rw [Bool.and_eq_true]
  refine ⟨h1, decide_eq_true ?_⟩
  show PyData.depthAll (fs.map PyData.int) + 1 ≤ 64
  rw [h2]
  decide
theorem rd_neN {K : PySem.W.Frag} {H : Hp} {Q : VK} {p p2 : Addr} {fs : List Int} (h : H p = some (.lst (fs.map V.int))) (h2 : H p2 = some (.lst [])) (q : Q (.bl (!fs.isEmpty)) H) : rNeD K (.ref p) (.ref p2) H Q := by
  refine ⟨_, _, .lst (SqL.of h) (dp_ints fs), .lst (SqL.of h2) .nil, shaped_ints fs, by decide, ?_⟩
  cases fs with
  | nil => exact q
  | cons x r => exact q
/-- a comprehension within a def that draws: what is made so far is told by Pv -/
theorem lc_wd {c b : Addr} {ns : List Int} {J : It} {n : Nat} {G : Hp → Prop} {Y : Nat → Hp → V → Hp → Prop} (w : Walk J n G Y) {g : TG} {tt : TT} {te : TE} {vs : List Nat} {σ : L2.St} {H0 : Hp} {Q : VK} (B : Bag c ns b H0) (Pv : Nat → List V → Prop) (p0 : Pv 0 [])
    (sm : ∀ i acc, Pv i acc → acc.length < 1000) (hG : ∀ H, Wd c ns b H0 H → G H)
    (hs : ∀ i x H H' acc (Qc : VK) (R : Hp → Prop), i < n → Wd c ns b H0 H → Pv i acc → Y i H x H' → (∀ y H4, Wd c ns b H H4 → Pv (i + 1) (acc ++ [y]) → Qc y H4) → (∀ H4, Wd c ns b H H4 → Pv (i + 1) acc → R H4) →
      g x (wipe σ vs) H' fun σ2 H2 => wipe σ2 vs = wipe σ vs ∧ tt σ2 H2 fun b H3 => if b = true then te σ2 H3 Qc else R H3)
    (hd : ∀ H D acc, Wd c ns b H0 H → H0 D = none → H D = some (.lst acc) → Pv n acc → Q (.ref D) H) : Lc J g tt te vs σ H0 Q := fun D nD =>
  lc_it w (Qd := fun H => Q (.ref D) H) (fun i H => Wd c ns b H0 H ∧ ∃ acc, H D = some (.lst acc) ∧ Pv i acc) ⟨(Wd.refl B).mut nD, [], upd_same, p0⟩ (fun i H _ p => hG H p.1)
    (fun i x H H' hi p y => by
      obtain ⟨w0, acc, hD, pa⟩ := p
      have nDb : D ≠ b := B.ne nD
      refine hs i x H H' acc _ _ hi w0 pa y (fun z H4 w4 pz => ?_) (fun H4 w4 pz => ⟨w0.trans w4, acc, w4.lst nDb hD, pz⟩)
      exact ⟨acc, w4.lst nDb hD, small1000 (by have := sm i acc pa; omega), (w0.trans w4).mut nD, _, upd_same, pz⟩)
    (fun H p => by
      obtain ⟨w0, acc, hD, pa⟩ := p
      exact hd H D acc w0 nD hD pa)
/-! further walks -/
def EnL (K : PySem.W.Frag) (R : It → Hp → Prop) (vs : List V) (H : Hp) : Prop := ∃ a xs, vs = [.ref a] ∧ SqL K H a xs ∧ R (Ite K a) H
def ItS (R : It → Hp → Prop) (v : V) (H : Hp) : Prop := ∃ x, v = .str x ∧ R (Its x) H
section
variable {σ : L2.St} {H : Hp} {K : PySem.W.Frag} {Q : VK} {te : TE} {tr : TA} {p p2 : Addr} {xs ys : List V} {R : It → Hp → Prop}
theorem rd_iEnum (q : tr σ H fun vs H1 => EnL K R vs H1) : iEnum K tr σ H R := q
theorem rd_EnL (h : H p = some (.lst xs)) (q : R (Ite K p) H) : EnL K R [.ref p] H := ⟨p, xs, rfl, SqL.of h, q⟩
theorem rd_iStr (q : te σ H fun v H1 => ItS R v H1) : iStr te σ H R := q
theorem rd_ItS {x : Str} (q : R (Its x) H) : ItS R (.str x) H := ⟨x, rfl, q⟩
theorem rd_inT {x : V} (h : H p = some (.tup xs)) (fx : flatV x = true) (fs : xs.all flatV = true) (q : Q (.bl (inV x xs)) H) : rIn K false x (.ref p) H Q := ⟨p, xs, rfl, .inr (SqT.of h), fx, fs, q⟩
theorem rd_rep {k : Int} (h : H p = some (.lst xs)) (k0 : 0 ≤ k) (k1 : k ≤ 1000) (hl : xs.length ≤ 10) (q : ∀ l, H l = none → Q (.ref l) (upd H l (.lst (List.replicate k.toNat xs).flatten))) : rRep (.ref p) (.int k) H Q := by
  refine ⟨p, k, xs, rfl, rfl, h, by omega, by omega, ?_, q⟩
  have e1 : xs.length * k.toNat ≤ 10 * 1000 := Nat.mul_le_mul hl (by omega)
  exact Nat.le_trans e1 (by decide)
theorem rd_ext (h : H p = some (.lst xs)) (h2 : H p2 = some (.lst ys)) (hl : xs.length + ys.length ≤ 1000) (q : Q .non (upd H p (.lst (xs ++ ys)))) : rExtend (.ref p) [.ref p2] H Q := ⟨p, p2, xs, ys, rfl, rfl, h, h2, Nat.le_of_lt (small1000 hl), q⟩
end
end Rv
/-! the mathematics of lines over looks -/
namespace Rv
open PySem PySem.Spec PyProof.Rows L2
/-- the code of a block's sign -/
def sg (e : Int) : Nat := if e = -1 then 46 else 48 + (e.fdiv 100).toNat
def one (c : Nat) : Str := ⟨#[c]⟩
def txt (cs : List Nat) : Str := ⟨cs.toArray⟩
def codes (es : List Int) : List Nat := es.map sg
def Img (es : List Int) : Prop := 1 ≤ es.length ∧ es.length ≤ 12 ∧ ∀ e ∈ es, -1 ≤ e ∧ e ≤ 999
theorem txt_len (cs : List Nat) : (txt cs).length = cs.length := by simp [txt, Str.length]
theorem txt_cps (cs : List Nat) : (txt cs).cps.toList = cs := rfl
theorem txt_inj {a b : List Nat} (h : txt a = txt b) : a = b := by
  have q := congrArg (fun z : Str => z.cps.toList) h
  exact q
theorem sgn_inj {a b : Nat} (h : one a = one b) : a = b := by
  have q := congrArg (fun z : Str => z.cps.toList) h
  simpa [one] using q
theorem digit_txt : ∀ k : Nat, k < 10 → (Str.ofString (toString (k : Int))) = one (48 + k) := by decide +kernel
theorem digit_txtI {i : Int} (h0 : 0 ≤ i) (h1 : i < 10) : Str.ofString (toString i) = one (48 + i.toNat) := by
  obtain ⟨k, rfl⟩ : ∃ k : Nat, i = (k : Int) := ⟨i.toNat, by omega⟩
  exact digit_txt k (by omega)
theorem kind_small {e : Int} (h0 : 0 ≤ e) (h1 : e ≤ 999) : 0 ≤ e.fdiv 100 ∧ e.fdiv 100 < 10 := by
  rw [Int.fdiv_eq_ediv_of_nonneg _ (by decide)]
  omega
theorem join_sg (cs : List Nat) : Txt.join (Str.ofString "") (cs.map one) = txt cs := by
  rw [TL.join_eq]
  refine TL.ext_tl ?_
  rw [TL.tl_join]
  have go : ∀ cs : List Nat, TL.joinL (TL.tl (Str.ofString "")) ((cs.map one).map TL.tl) = cs := fun cs => by
    induction cs with
    | nil => rfl
    | cons x r ih =>
      cases r with
      | nil => rfl
      | cons y r => 
        show TL.tl (one x) ++ (TL.tl (Str.ofString "") ++ TL.joinL (TL.tl (Str.ofString "")) (((y :: r).map one).map TL.tl)) = x :: y :: r
        rw [ih]
        rfl
  exact go cs
theorem ones_sum (cs : List Nat) : ((cs.map one).map (·.length)).sum = cs.length := by
  induction cs with
  | nil => rfl
  | cons x r ih =>
    simp only [List.map_cons, List.sum_cons, List.length_cons, ih]
    show 1 + r.length = r.length + 1
    omega
/-- does a guard's sign fit -/
def fitC (s v : Nat) : Bool := if s = 45 then true else if s = 42 then !decide (v = 46) else decide (s = v)
def fitsL (gs vs : List Nat) : Bool := ((gs.zip vs).map fun p => fitC p.1 p.2).all id
def Sign (c : Nat) : Prop := c = 46 ∨ c = 42 ∨ c = 45 ∨ (48 ≤ c ∧ c ≤ 57)
theorem fits_iff {gs vs : List Nat} (hl : gs.length ≤ vs.length) : fitsL gs vs = true ↔ ∀ (k : Nat) (h : k < gs.length), fitC gs[k] (vs[k]'(by omega)) = true := by
  unfold fitsL
  rw [List.all_eq_true]
  constructor
  · intro h k hk
    refine h _ (List.mem_map.mpr ⟨(gs[k], vs[k]'(by omega)), ?_, rfl⟩)
    have hz : k < (gs.zip vs).length := by rw [List.length_zip]; omega
    have e : (gs.zip vs)[k] = (gs[k], vs[k]'(by omega)) := List.getElem_zip
    rw [← e]
    exact List.getElem_mem hz
  · intro h x hx
    obtain ⟨p, hp, rfl⟩ := List.mem_map.mp hx
    obtain ⟨k, hk, e⟩ := List.mem_iff_getElem.mp hp
    rw [List.length_zip] at hk
    rw [List.getElem_zip] at e
    rw [← e]
    exact h k (by omega)
/-- a row's words -/
def sCopy : Str := Str.ofString "copy"
def sMove : Str := Str.ofString "move"
def sClear : Str := Str.ofString "clear"
structure Ln where
  w : Str
  t : Int
  o : Int
  g : List Nat
def Ln.vals (r : Ln) : List V := [.str r.w, .int r.t, .int r.o, .str (txt r.g)]
structure LnOk (n : Nat) (r : Ln) : Prop where
  t0 : 0 ≤ r.t
  t1 : r.t < n
  word : (r.w = sClear ∧ r.o = -1) ∨ ((r.w = sCopy ∨ r.w = sMove) ∧ 0 ≤ r.o ∧ r.o < n ∧ r.o ≠ r.t)
  gl : r.g = [] ∨ r.g.length = n
  gs : ∀ c ∈ r.g, Sign c
theorem LnOk.gle {n : Nat} {r : Ln} (h : LnOk n r) : r.g.length ≤ n := by
  rcases h.gl with e | e
  · rw [e]; exact Nat.zero_le _
  · rw [e]; exact Nat.le_refl _
def fullAt (vs : List Nat) (o : Int) : Bool := !decide (vs.getD o.toNat 0 = 46)
def worksL (r : Ln) (vs : List Nat) : Bool := fitsL r.g vs && (decide (r.w = sClear) || fullAt vs r.o)
def baseL (vs : List Nat) : List Int := (List.range vs.length).map fun k => if vs.getD k 0 = 46 then -1 else (k : Int)
def origL (r : Ln) (vs : List Nat) : List Int :=
  if worksL r vs = true then (if r.w = sMove then ((baseL vs).set r.t.toNat r.o).set r.o.toNat (-1) else (baseL vs).set r.t.toNat r.o) else baseL vs
def carL (held es : List Int) : List Int := held.map fun k => if k = -1 then -1 else es.getD k.toNat 0
/-- each entry is -1 or a place -/
def Held (n : Nat) (hs : List Int) : Prop := ∀ k ∈ hs, k = -1 ∨ (0 ≤ k ∧ k < n)
theorem base_len (vs : List Nat) : (baseL vs).length = vs.length := by simp [baseL]
theorem base_held (vs : List Nat) : Held vs.length (baseL vs) := fun k hk => by
  obtain ⟨j, hj, rfl⟩ := List.mem_map.mp hk
  have q := List.mem_range.mp hj
  split
  · exact .inl rfl
  · exact .inr ⟨by omega, by omega⟩
theorem orig_len (r : Ln) (vs : List Nat) : (origL r vs).length = vs.length := by
  unfold origL
  split
  · split
    · rw [List.length_set, List.length_set, base_len]
    · rw [List.length_set, base_len]
  · exact base_len vs
theorem set_held {n : Nat} {hs : List Int} {j : Nat} {x : Int} (h : Held n hs) (hx : x = -1 ∨ (0 ≤ x ∧ x < n)) : Held n (hs.set j x) := fun k hk => by
  rcases List.mem_or_eq_of_mem_set hk with q | q
  · exact h k q
  · rw [q]; exact hx
theorem LnOk.src {n : Nat} {r : Ln} (h : LnOk n r) : r.o = -1 ∨ (0 ≤ r.o ∧ r.o < n) := by
  rcases h.word with ⟨_, e⟩ | ⟨_, e1, e2, _⟩
  · exact .inl e
  · exact .inr ⟨e1, e2⟩
theorem orig_held {r : Ln} {vs : List Nat} (h : LnOk vs.length r) : Held vs.length (origL r vs) := by
  unfold origL
  split
  · split
    · exact set_held (set_held (base_held vs) h.src) (.inl rfl)
    · exact set_held (base_held vs) h.src
  · exact base_held vs
theorem car_len (hs es : List Int) : (carL hs es).length = hs.length := by simp [carL]
theorem codes_len (es : List Int) : (codes es).length = es.length := by simp [codes]
theorem getD_mem {es : List Int} {k : Nat} (h : k < es.length) : es.getD k 0 ∈ es := by
  rw [List.getD_eq_getElem?_getD, List.getElem?_eq_getElem h]
  exact List.getElem_mem h
theorem car_img {hs es : List Int} (h : Held es.length hs) (hl : hs.length = es.length) (I : Img es) : Img (carL hs es) := by
  obtain ⟨h1, h2, h3⟩ := I
  refine ⟨by rw [car_len, hl]; exact h1, by rw [car_len, hl]; exact h2, fun e he => ?_⟩
  obtain ⟨k, hk, rfl⟩ := List.mem_map.mp he
  rcases h k hk with q | ⟨q1, q2⟩
  · rw [if_pos q]; exact ⟨by decide, by decide⟩
  · rw [if_neg (by omega)]
    exact h3 _ (getD_mem (by omega))
/-- the look behind a line, by the look and by the image -/
theorem atI_ints {es : List Int} {k : Int} (h0 : 0 ≤ k) (h1 : k < es.length) : atI (es.map V.int) k = some (.int (es.getD k.toNat 0)) := by
  obtain ⟨v, e1, e2, _⟩ := atI_int (xs := es.map V.int) h0 (by rw [List.length_map]; exact h1)
  rw [e1, ← e2, List.getElem?_map, List.getD_eq_getElem?_getD, List.getElem?_eq_getElem (by omega)]
  rfl
theorem atI_cods {cs : List Nat} {k : Int} (h0 : 0 ≤ k) (h1 : k < cs.length) : atI (txt cs).cps.toList k = some (cs.getD k.toNat 0) := by
  obtain ⟨v, e1, e2, _⟩ := atI_int (xs := cs) h0 h1
  show atI cs k = _
  rw [e1, ← e2, List.getD_eq_getElem?_getD, List.getElem?_eq_getElem (by omega)]
  rfl
theorem txt_small {cs : List Nat} (h : cs.length ≤ 1000) : (txt cs).length ≤ sizeLine := by
  rw [txt_len]
  exact Nat.le_of_lt (small1000 h)
theorem car_get {hs es : List Int} {i : Nat} (hi : i < hs.length) : ((carL hs es).map V.int)[i]? = some (.int (if hs[i] = -1 then -1 else es.getD hs[i].toNat 0)) := by
  unfold carL
  rw [List.getElem?_map, List.getElem?_map, List.getElem?_eq_getElem hi]
  rfl
theorem codes_sign {es : List Int} (I : Img es) : ∀ c ∈ codes es, Sign c := fun c hc => by
  obtain ⟨e, he, rfl⟩ := List.mem_map.mp hc
  obtain ⟨h0, h1⟩ := I.2.2 e he
  unfold sg
  by_cases z : e = -1
  · rw [if_pos z]
    exact .inl rfl
  · rw [if_neg z]
    obtain ⟨k0, k1⟩ := kind_small (e := e) (by omega) h1
    exact .inr (.inr (.inr (by omega)))
theorem look_car {hs es : List Int} (h : Held es.length hs) : codes (carL hs es) = hs.map fun k => if k = -1 then 46 else (codes es).getD k.toNat 0 := by
  unfold codes carL
  rw [List.map_map]
  refine List.map_congr_left fun k hk => ?_
  show sg (if k = -1 then -1 else es.getD k.toNat 0) = _
  rcases h k hk with q | ⟨q1, q2⟩
  · rw [if_pos q, if_pos q]; rfl
  · rw [if_neg (by omega), if_neg (by omega)]
    have hk2 : k.toNat < es.length := by omega
    rw [List.getD_eq_getElem?_getD, List.getD_eq_getElem?_getD, List.getElem?_map, List.getElem?_eq_getElem hk2]
    rfl
end Rv
/-! lines one behind the other; twice is once; lists of tuples in a heap -/
namespace Rv
open PySem PySem.Spec PyProof.Rows L2
def viewL (r : Ln) (v : List Nat) : List Nat := (origL r v).map fun k => if k = -1 then 46 else v.getD k.toNat 0
def stepL (r : Ln) (es : List Int) : List Int := carL (origL r (codes es)) es
theorem orig_held2 {r : Ln} {es : List Int} (h : LnOk es.length r) : Held es.length (origL r (codes es)) := by
  have q := orig_held (r := r) (vs := codes es) (by rw [codes_len]; exact h)
  rw [codes_len] at q
  exact q
theorem step_len (r : Ln) (es : List Int) : (stepL r es).length = es.length := by
  unfold stepL
  rw [car_len, orig_len, codes_len]
theorem step_img {r : Ln} {es : List Int} (h : LnOk es.length r) (I : Img es) : Img (stepL r es) := car_img (orig_held2 h) (by rw [orig_len, codes_len]) I
theorem codes_step {r : Ln} {es : List Int} (h : LnOk es.length r) : codes (stepL r es) = viewL r (codes es) := look_car (orig_held2 h)
theorem view_len (r : Ln) (v : List Nat) : (viewL r v).length = v.length := by
  unfold viewL
  rw [List.length_map, orig_len]
theorem car_get2 {hs es : List Int} {i : Nat} (hi : i < hs.length) : (carL hs es)[i]'(by rw [car_len]; exact hi) = if hs[i] = -1 then -1 else es.getD hs[i].toNat 0 := by
  unfold carL
  rw [List.getElem_map]
theorem getD_get {es : List Int} {k : Nat} (h : k < es.length) : es.getD k 0 = es[k] := by
  rw [List.getD_eq_getElem?_getD, List.getElem?_eq_getElem h]
  rfl
theorem getD_getN {es : List Nat} {k : Nat} (h : k < es.length) : es.getD k 0 = es[k] := by
  rw [List.getD_eq_getElem?_getD, List.getElem?_eq_getElem h]
  rfl
theorem car_assoc {as bs hs : List Int} (ha : Held bs.length as) : carL as (carL bs hs) = carL (carL as bs) hs := by
  refine List.ext_getElem (by rw [car_len, car_len, car_len]) fun i h1 h2 => ?_
  have hi : i < as.length := by rw [car_len] at h1; exact h1
  have hi2 : i < (carL as bs).length := by rw [car_len]; exact hi
  rw [car_get2 hi, car_get2 hi2, car_get2 hi]
  rcases ha _ (List.getElem_mem hi) with e | ⟨e1, e2⟩
  · rw [if_pos e, if_pos e]
    rfl
  · have hn : ¬ as[i] = -1 := by omega
    have hj : as[i].toNat < bs.length := by omega
    simp only [if_neg hn]
    rw [getD_get (show as[i].toNat < (carL bs hs).length by rw [car_len]; exact hj), car_get2 hj, getD_get hj]
theorem base_get {v : List Nat} {j : Nat} (h : j < v.length) : (baseL v)[j]'(by rw [base_len]; exact h) = if v[j] = 46 then -1 else (j : Int) := by
  unfold baseL
  rw [List.getElem_map, List.getElem_range, getD_getN h]
/-- what a line's origins are, place by place -/
theorem orig_get {r : Ln} {v : List Nat} (ok : LnOk v.length r) {j : Nat} (h : j < v.length) : (origL r v)[j]'(by rw [orig_len]; exact h) =
    if worksL r v = true then (if r.w = sMove ∧ (j : Int) = r.o then -1 else if (j : Int) = r.t then r.o else if v[j] = 46 then -1 else (j : Int)) else if v[j] = 46 then -1 else (j : Int) := by
  have t0 := ok.t0
  by_cases w : worksL r v = true
  · rw [if_pos w]
    by_cases m : r.w = sMove
    · have e : origL r v = ((baseL v).set r.t.toNat r.o).set r.o.toNat (-1) := by unfold origL; rw [if_pos w, if_pos m]
      have o0 : 0 ≤ r.o := by
        rcases ok.word with ⟨q, _⟩ | ⟨_, q, _⟩
        · rw [m] at q
          exact absurd q (by decide)
        · exact q
      have g : (origL r v)[j]'(by rw [orig_len]; exact h) = (((baseL v).set r.t.toNat r.o).set r.o.toNat (-1))[j]'(by rw [List.length_set, List.length_set, base_len]; exact h) := by congr 1
      rw [g, List.getElem_set, List.getElem_set, base_get h]
      by_cases k : r.o.toNat = j
      · have hm : r.w = sMove ∧ (j : Int) = r.o := ⟨m, by omega⟩
        rw [if_pos k, if_pos hm]
      · have hm : ¬ (r.w = sMove ∧ (j : Int) = r.o) := fun q => k (by have := q.2; omega)
        rw [if_neg k, if_neg hm]
        by_cases k2 : r.t.toNat = j
        · have k3 : (j : Int) = r.t := by omega
          rw [if_pos k2, if_pos k3]
        · have k3 : ¬ (j : Int) = r.t := by omega
          rw [if_neg k2, if_neg k3]
    · have e : origL r v = (baseL v).set r.t.toNat r.o := by unfold origL; rw [if_pos w, if_neg m]
      have g : (origL r v)[j]'(by rw [orig_len]; exact h) = ((baseL v).set r.t.toNat r.o)[j]'(by rw [List.length_set, base_len]; exact h) := by congr 1
      have hm : ¬ (r.w = sMove ∧ (j : Int) = r.o) := fun q => m q.1
      rw [g, List.getElem_set, base_get h, if_neg hm]
      by_cases k2 : r.t.toNat = j
      · have k3 : (j : Int) = r.t := by omega
        rw [if_pos k2, if_pos k3]
      · have k3 : ¬ (j : Int) = r.t := by omega
        rw [if_neg k2, if_neg k3]
  · have e : origL r v = baseL v := by unfold origL; rw [if_neg w]
    have g : (origL r v)[j]'(by rw [orig_len]; exact h) = (baseL v)[j]'(by rw [base_len]; exact h) := by congr 1
    rw [g, base_get h, if_neg w]
theorem view_get {r : Ln} {v : List Nat} {j : Nat} (h : j < v.length) : (viewL r v)[j]'(by rw [view_len]; exact h) = if (origL r v)[j]'(by rw [orig_len]; exact h) = -1 then 46 else v.getD ((origL r v)[j]'(by rw [orig_len]; exact h)).toNat 0 := by
  unfold viewL
  rw [List.getElem_map]
theorem works_full {r : Ln} {v : List Nat} (w : worksL r v = true) (c : r.w ≠ sClear) : v.getD r.o.toNat 0 ≠ 46 := by
  unfold worksL at w
  rw [decide_eq_false c, Bool.false_or, Bool.and_eq_true] at w
  have q := w.2
  unfold fullAt at q
  intro k
  rw [decide_eq_true k] at q
  cases q
/-- a line that does nothing leaves the look -/
theorem view_idle {r : Ln} {v : List Nat} (ok : LnOk v.length r) (w : ¬ worksL r v = true) : viewL r v = v := by
  refine List.ext_getElem (view_len r v) fun j h1 h2 => ?_
  rw [view_get h2, orig_get ok h2, if_neg w]
  by_cases k : v[j] = 46
  · rw [if_pos k, if_pos rfl, k]
  · rw [if_neg k, if_neg (by omega), Int.toNat_natCast, getD_getN h2]
/-- where a block is full behind the line -/
theorem view_46 {r : Ln} {v : List Nat} (ok : LnOk v.length r) {j : Nat} (h : j < v.length) : (viewL r v)[j]'(by rw [view_len]; exact h) = 46 ↔ (origL r v)[j]'(by rw [orig_len]; exact h) = -1 := by
  rw [view_get h]
  constructor
  · intro q
    by_cases k : (origL r v)[j]'(by rw [orig_len]; exact h) = -1
    · exact k
    · rw [if_neg k] at q
      rw [orig_get ok h] at q k
      exfalso
      have cl : worksL r v = true → r.o ≠ -1 → r.w ≠ sClear := fun _ o c => by
        rcases ok.word with ⟨_, e⟩ | ⟨e | e, _⟩
        · exact o e
        · rw [c] at e; exact absurd e (by decide)
        · rw [c] at e; exact absurd e (by decide)
      by_cases w : worksL r v = true
      · rw [if_pos w] at q k
        by_cases m : r.w = sMove ∧ (j : Int) = r.o
        · rw [if_pos m] at k; exact k rfl
        · rw [if_neg m] at q k
          by_cases t : (j : Int) = r.t
          · rw [if_pos t] at q k
            exact works_full w (cl w k) q
          · rw [if_neg t] at q k
            by_cases f : v[j] = 46
            · rw [if_pos f] at k; exact k rfl
            · rw [if_neg f, Int.toNat_natCast, getD_getN h] at q
              exact f q
      · rw [if_neg w] at q k
        by_cases f : v[j] = 46
        · rw [if_pos f] at k; exact k rfl
        · rw [if_neg f, Int.toNat_natCast, getD_getN h] at q
          exact f q
  · intro k
    rw [if_pos k]
/-- TWICE IS ONCE -/
theorem orig_twice {r : Ln} {v : List Nat} (ok : LnOk v.length r) : carL (origL r (viewL r v)) (origL r v) = origL r v := by
  have ok2 : LnOk (viewL r v).length r := by rw [view_len]; exact ok
  refine List.ext_getElem (by rw [car_len, orig_len, orig_len, view_len]) fun j h1 h2 => ?_
  have h : j < v.length := by rw [orig_len] at h2; exact h2
  have hv : j < (viewL r v).length := by rw [view_len]; exact h
  rw [car_get2 (by rw [orig_len]; exact hv), orig_get ok2 hv]
  have stay : (if (if (viewL r v)[j] = 46 then -1 else (j : Int)) = -1 then -1 else (origL r v).getD (if (viewL r v)[j] = 46 then -1 else (j : Int)).toNat 0) = (origL r v)[j] := by
    by_cases f : (viewL r v)[j] = 46
    · rw [if_pos f, if_pos rfl]
      exact ((view_46 ok h).mp f).symm
    · rw [if_neg f, if_neg (by omega), Int.toNat_natCast, getD_get h2]
  by_cases w2 : worksL r (viewL r v) = true
  · have w : worksL r v = true := by
      by_cases w : worksL r v = true
      · exact w
      · rw [view_idle ok w] at w2
        exact w2
    rw [if_pos w2]
    have nm : r.w ≠ sMove := fun m => by
      have o0 : 0 ≤ r.o ∧ r.o < v.length := by
        rcases ok.word with ⟨q, _⟩ | ⟨_, q1, q2, _⟩
        · rw [m] at q
          exact absurd q (by decide)
        · exact ⟨q1, q2⟩
      have f := works_full w2 (by rw [m]; decide)
      have ho : r.o.toNat < v.length := by omega
      rw [getD_getN (show r.o.toNat < (viewL r v).length by rw [view_len]; exact ho)] at f
      refine f ((view_46 ok ho).mpr ?_)
      rw [orig_get ok ho, if_pos w, if_pos ⟨m, by omega⟩]
    have hm : ¬ (r.w = sMove ∧ (j : Int) = r.o) := fun q => nm q.1
    simp only [if_neg hm]
    by_cases t : (j : Int) = r.t
    · simp only [if_pos t]
      have ej : (origL r v)[j] = r.o := by rw [orig_get ok h, if_pos w, if_neg hm, if_pos t]
      rw [ej]
      by_cases o : r.o = -1
      · rw [if_pos o, o]
      · rw [if_neg o]
        have o0 : 0 ≤ r.o ∧ r.o < v.length ∧ r.o ≠ r.t := by
          rcases ok.word with ⟨_, q⟩ | ⟨_, q1, q2, q3⟩
          · exact absurd q o
          · exact ⟨q1, q2, q3⟩
        have ho : r.o.toNat < v.length := by omega
        have ne : r.w ≠ sClear := fun c => by
          rcases ok.word with ⟨_, q⟩ | ⟨q | q, _⟩
          · exact o q
          · rw [c] at q; exact absurd q (by decide)
          · rw [c] at q; exact absurd q (by decide)
        have f := works_full w ne
        rw [getD_getN ho] at f
        have hm2 : ¬ (r.w = sMove ∧ ((r.o.toNat : Nat) : Int) = r.o) := fun q => nm q.1
        have hm3 : ¬ ((r.o.toNat : Nat) : Int) = r.t := by omega
        rw [getD_get (show r.o.toNat < (origL r v).length by rw [orig_len]; exact ho), orig_get ok ho, if_pos w, if_neg hm2, if_neg hm3, if_neg f]
        omega
    · simp only [if_neg t]
      exact stay
  · rw [if_neg w2]
    exact stay
theorem step_step {r : Ln} {es : List Int} (h : LnOk es.length r) : stepL r (stepL r es) = stepL r es := by
  have e : stepL r (stepL r es) = carL (origL r (viewL r (codes es))) (stepL r es) := by
    show carL (origL r (codes (stepL r es))) (stepL r es) = _
    rw [codes_step h]
  rw [e]
  unfold stepL
  have ok : LnOk (codes es).length r := by rw [codes_len]; exact h
  rw [car_assoc, orig_twice ok]
  have q := orig_held (r := r) (vs := viewL r (codes es)) (by rw [view_len]; exact ok)
  rw [orig_len]
  rw [view_len] at q
  exact q
theorem view_view {r : Ln} {v : List Nat} {es : List Int} (h : LnOk es.length r) (e : v = codes es) : viewL r (viewL r v) = viewL r v := by
  rw [e, ← codes_step h, ← codes_step (r := r) (es := stepL r es) (by rw [step_len]; exact h), step_step h]
/-- all positions and the last -/
def runP (p : List (List Int) × List Int) (rs : List Ln) : List (List Int) × List Int := rs.foldl (fun p r => (p.1 ++ [stepL r p.2], stepL r p.2)) p
def flowP (p : List Int × List Nat) (rs : List Ln) : List Int × List Nat := rs.foldl (fun p r => (carL (origL r p.2) p.1, viewL r p.2)) p
theorem runP_add (p) (rs : List Ln) (r : Ln) : runP p (rs ++ [r]) = ((runP p rs).1 ++ [stepL r (runP p rs).2], stepL r (runP p rs).2) := by
  unfold runP
  rw [List.foldl_append]
  rfl
theorem flowP_add (p) (rs : List Ln) (r : Ln) : flowP p (rs ++ [r]) = (carL (origL r (flowP p rs).2) (flowP p rs).1, viewL r (flowP p rs).2) := by
  unfold flowP
  rw [List.foldl_append]
  rfl
/-! lists of tuples -/
def TupsAt (H : Hp) (ps : List Addr) (vss : List (List V)) : Prop := ps.length = vss.length ∧ ∀ (i : Nat) (vs : List V), vss[i]? = some vs → ∃ p, ps[i]? = some p ∧ H p = some (.tup vs)
section
variable {H H' : Hp} {ps : List Addr} {vss : List (List V)} {p : Addr} {vs : List V} {c b : Addr} {ns : List Int}
theorem TupsAt.nil : TupsAt H [] [] := ⟨rfl, fun i vs e => by simp at e⟩
theorem TupsAt.same (S : Same H H') (h : TupsAt H ps vss) : TupsAt H' ps vss := ⟨h.1, fun i vs e => by
  obtain ⟨p, e1, e2⟩ := h.2 i vs e
  exact ⟨p, e1, S _ _ e2⟩⟩
theorem TupsAt.wd (w : Wd c ns b H H') (h : TupsAt H ps vss) : TupsAt H' ps vss := ⟨h.1, fun i vs e => by
  obtain ⟨p, e1, e2⟩ := h.2 i vs e
  exact ⟨p, e1, w.tup e2⟩⟩
/-- an object that is no tuple changes -/
theorem TupsAt.mut {a : Addr} {xs : List V} {o : HO} (ha : H a = some (.lst xs)) (h : TupsAt H ps vss) : TupsAt (upd H a o) ps vss := ⟨h.1, fun i vs e => by
  obtain ⟨p, e1, e2⟩ := h.2 i vs e
  exact ⟨p, e1, by rw [upd_ne (ne_of e2 ha (by intro z; cases z))]; exact e2⟩⟩
theorem TupsAt.app (h : TupsAt H ps vss) (hp : H p = some (.tup vs)) : TupsAt H (ps ++ [p]) (vss ++ [vs]) := ⟨by rw [List.length_append, List.length_append, h.1]; rfl, fun i us e => by
  by_cases k : i < vss.length
  · rw [List.getElem?_append_left k] at e
    obtain ⟨q, e1, e2⟩ := h.2 i us e
    exact ⟨q, by rw [List.getElem?_append_left (by rw [h.1]; exact k)]; exact e1, e2⟩
  · rw [List.getElem?_append_right (by omega)] at e
    have hi : i - vss.length = 0 := by
      have := (List.getElem?_eq_some_iff.mp e).1
      simp at this
      omega
    rw [hi] at e
    have e3 : vs = us := by simpa using e
    refine ⟨p, ?_, e3 ▸ hp⟩
    rw [List.getElem?_append_right (by rw [h.1]; omega), h.1, hi]
    rfl⟩
theorem TupsAt.get (h : TupsAt H ps vss) {i : Nat} (hi : i < vss.length) : ∃ p, ps[i]? = some p ∧ H p = some (.tup vss[i]) := h.2 i _ (List.getElem?_eq_getElem hi)
theorem TupsAt.take (h : TupsAt H ps vss) (k : Nat) : TupsAt H (ps.take k) (vss.take k) := ⟨by rw [List.length_take, List.length_take, h.1], fun i vs e => by
  have hi : i < k := by
    have := (List.getElem?_eq_some_iff.mp e).1
    rw [List.length_take] at this
    omega
  rw [List.getElem?_take_of_lt hi] at e
  obtain ⟨q, e1, e2⟩ := h.2 i vs e
  exact ⟨q, by rw [List.getElem?_take_of_lt hi]; exact e1, e2⟩⟩
theorem TupsAt.drop (h : TupsAt H ps vss) (k : Nat) : TupsAt H (ps.drop k) (vss.drop k) := ⟨by rw [List.length_drop, List.length_drop, h.1], fun i vs e => by
  rw [List.getElem?_drop] at e
  obtain ⟨q, e1, e2⟩ := h.2 _ vs e
  exact ⟨q, by rw [List.getElem?_drop]; exact e1, e2⟩⟩
theorem TupsAt.rep (h : TupsAt H ps vss) (hp : H p = some (.tup vs)) : ∀ m : Nat, TupsAt H (ps ++ List.replicate m p) (vss ++ List.replicate m vs)
  | 0 => by simpa using h
  | m + 1 => by
    have q := (TupsAt.rep h hp m).app hp
    rw [List.append_assoc, List.append_assoc] at q
    have e1 : List.replicate m p ++ [p] = List.replicate (m + 1) p := by rw [List.replicate_succ']
    have e2 : List.replicate m vs ++ [vs] = List.replicate (m + 1) vs := by rw [List.replicate_succ']
    rw [e1, e2] at q
    exact q
end
def rows (rs : List Ln) : List (List V) := rs.map Ln.vals
def imgs (ess : List (List Int)) : List (List V) := ess.map fun es => es.map V.int
theorem rows_len (rs : List Ln) : (rows rs).length = rs.length := by simp [rows]
theorem rows_get {rs : List Ln} {i : Nat} (h : i < rs.length) : (rows rs)[i]? = some rs[i].vals := by
  unfold rows
  rw [List.getElem?_map, List.getElem?_eq_getElem h]
  rfl
theorem imgs_len (ess : List (List Int)) : (imgs ess).length = ess.length := by simp [imgs]
theorem imgs_app (a b : List (List Int)) : imgs (a ++ b) = imgs a ++ imgs b := List.map_append
theorem rows_app (a b : List Ln) : rows (a ++ b) = rows a ++ rows b := List.map_append
theorem imgs_rep (m : Nat) (e : List Int) : imgs (List.replicate m e) = List.replicate m (e.map V.int) := List.map_replicate
theorem rows_rep (m : Nat) (r : Ln) : rows (List.replicate m r) = List.replicate m r.vals := List.map_replicate
theorem take_ok {n : Nat} {rs : List Ln} {i : Nat} (h : ∀ r ∈ rs, LnOk n r) : ∀ r ∈ rs.take i, LnOk n r := fun r hr => h r (List.mem_of_mem_take hr)
theorem take_next {α : Type} {rs : List α} {i : Nat} (h : i < rs.length) : rs.take (i + 1) = rs.take i ++ [rs[i]] := by
  rw [List.take_add_one, List.getElem?_eq_getElem h]
  rfl
/-- what holds of a path -/
theorem runP_ok {es : List Int} (I : Img es) : ∀ (m : Nat) (rs : List Ln), rs.length = m → (∀ r ∈ rs, LnOk es.length r) →
    Img (runP ([es], es) rs).2 ∧ (runP ([es], es) rs).2.length = es.length ∧ (runP ([es], es) rs).1.getLast? = some (runP ([es], es) rs).2 ∧ (runP ([es], es) rs).1.length = rs.length + 1
  | 0, rs, e, h => by
    have e2 : rs = [] := List.length_eq_zero_iff.mp e
    subst e2
    exact ⟨I, rfl, rfl, rfl⟩
  | m + 1, rs, e, h => by
    have ne : rs ≠ [] := fun z => by rw [z] at e; cases e
    obtain ⟨init, r, rfl⟩ : ∃ init r, rs = init ++ [r] := ⟨rs.dropLast, rs.getLast ne, (List.dropLast_concat_getLast ne).symm⟩
    rw [List.length_append] at e
    obtain ⟨h1, h2, h3, h4⟩ := runP_ok I m init (by simpa using e) (fun r hr => h r (List.mem_append_left _ hr))
    have hr : LnOk (runP ([es], es) init).2.length r := by rw [h2]; exact h r (by simp)
    rw [runP_add]
    refine ⟨step_img hr h1, by rw [step_len, h2], by simp, by simp [h4]⟩
theorem flowP_ok {cs : List Nat} : ∀ (m : Nat) (rs : List Ln), rs.length = m → (flowP (baseL cs, cs) rs).1.length = cs.length ∧ (flowP (baseL cs, cs) rs).2.length = cs.length
  | 0, rs, e => by
    have e2 : rs = [] := List.length_eq_zero_iff.mp e
    subst e2
    exact ⟨base_len cs, rfl⟩
  | m + 1, rs, e => by
    have ne : rs ≠ [] := fun z => by rw [z] at e; cases e
    obtain ⟨init, r, rfl⟩ : ∃ init r, rs = init ++ [r] := ⟨rs.dropLast, rs.getLast ne, (List.dropLast_concat_getLast ne).symm⟩
    rw [List.length_append] at e
    obtain ⟨h1, h2⟩ := flowP_ok (cs := cs) m init (by simpa using e)
    rw [flowP_add]
    exact ⟨by rw [car_len, orig_len]; exact h2, by rw [view_len]; exact h2⟩
/-- the look along a run is the look of the images -/
theorem flow_look {es : List Int} (I : Img es) : ∀ (m : Nat) (rs : List Ln), rs.length = m → (∀ r ∈ rs, LnOk es.length r) → (flowP (baseL (codes es), codes es) rs).2 = codes (runP ([es], es) rs).2
  | 0, rs, e, h => by
    have e2 : rs = [] := List.length_eq_zero_iff.mp e
    subst e2
    rfl
  | m + 1, rs, e, h => by
    have ne : rs ≠ [] := fun z => by rw [z] at e; cases e
    obtain ⟨init, r, rfl⟩ : ∃ init r, rs = init ++ [r] := ⟨rs.dropLast, rs.getLast ne, (List.dropLast_concat_getLast ne).symm⟩
    rw [List.length_append] at e
    have hi : ∀ r ∈ init, LnOk es.length r := fun r hr => h r (List.mem_append_left _ hr)
    have ih := flow_look I m init (by simpa using e) hi
    obtain ⟨_, h2, _, _⟩ := runP_ok I init.length init rfl hi
    rw [flowP_add, runP_add, ih]
    exact (codes_step (by rw [h2]; exact h r (by simp))).symm
theorem runP_rep {p : List (List Int) × List Int} {r : Ln} (ok : LnOk p.2.length r) : ∀ m : Nat, runP p (List.replicate (m + 1) r) = (p.1 ++ List.replicate (m + 1) (stepL r p.2), stepL r p.2)
  | 0 => rfl
  | m + 1 => by
    have e : List.replicate (m + 1 + 1) r = List.replicate (m + 1) r ++ [r] := List.replicate_succ'
    have e2 : List.replicate (m + 1 + 1) (stepL r p.2) = List.replicate (m + 1) (stepL r p.2) ++ [stepL r p.2] := List.replicate_succ'
    rw [e, runP_add, runP_rep ok m, e2, step_step ok, List.append_assoc]
theorem runP_app (p) (as bs : List Ln) : runP p (as ++ bs) = runP (runP p as) bs := by unfold runP; rw [List.foldl_append]
theorem flowP_app (p) (as bs : List Ln) : flowP p (as ++ bs) = flowP (flowP p as) bs := by unfold flowP; rw [List.foldl_append]
theorem flowP_rep {h : List Int} {es : List Int} {r : Ln} (hl : h.length = es.length) (ok : LnOk es.length r) : ∀ m : Nat, flowP (h, codes es) (List.replicate (m + 1) r) = (carL (origL r (codes es)) h, viewL r (codes es))
  | 0 => rfl
  | m + 1 => by
    have e : List.replicate (m + 1 + 1) r = List.replicate (m + 1) r ++ [r] := List.replicate_succ'
    have okc : LnOk (codes es).length r := by rw [codes_len]; exact ok
    rw [e, flowP_add, flowP_rep hl ok m]
    have q := orig_held (r := r) (vs := viewL r (codes es)) (by rw [view_len]; exact okc)
    rw [view_len] at q
    show (carL (origL r (viewL r (codes es))) (carL (origL r (codes es)) h), viewL r (viewL r (codes es))) = _
    rw [car_assoc (by rw [orig_len]; exact q), orig_twice okc, view_view ok rfl]
/-- the last of a list of tuples -/
theorem TupsAt.last {H : Hp} {ps : List Addr} {vss : List (List V)} {vs : List V} (h : TupsAt H ps vss) (e : vss.getLast? = some vs) : ∃ init q, ps = init ++ [q] ∧ H q = some (.tup vs) := by
  rw [List.getLast?_eq_getElem?] at e
  obtain ⟨q, e1, e2⟩ := h.2 _ _ e
  have hv := (List.getElem?_eq_some_iff.mp e).1
  have hp := h.1
  have ne : ps ≠ [] := fun z => by rw [z] at hp; simp at hp; omega
  refine ⟨ps.dropLast, q, ?_, e2⟩
  have l : ps.getLast ne = q := by
    rw [← hp] at e1
    rw [List.getLast_eq_getElem]
    exact (List.getElem?_eq_some_iff.mp e1).2
  rw [← l]
  exact (List.dropLast_concat_getLast ne).symm
theorem imgs_last {ess : List (List Int)} {es : List Int} (h : ess.getLast? = some es) : (imgs ess).getLast? = some (es.map V.int) := by
  unfold imgs
  rw [List.getLast?_map, h]
  rfl
theorem base_codes {es : List Int} (I : Img es) {k : Nat} (h : k < es.length) : (baseL (codes es))[k]'(by rw [base_len, codes_len]; exact h) = if es[k] = -1 then -1 else (k : Int) := by
  rw [base_get (by rw [codes_len]; exact h)]
  have e : (codes es)[k]'(by rw [codes_len]; exact h) = sg es[k] := by
    unfold codes
    rw [List.getElem_map]
  rw [e]
  obtain ⟨h0, h1⟩ := I.2.2 _ (List.getElem_mem h)
  by_cases z : es[k] = -1
  · rw [if_pos z, if_pos (by rw [z]; rfl)]
  · have z2 : ¬ sg es[k] = 46 := by
      unfold sg
      rw [if_neg z]
      omega
    rw [if_neg z, if_neg z2]
theorem rep_flat {α : Type} (x : α) : ∀ m : Nat, (List.replicate m [x]).flatten = List.replicate m x
  | 0 => rfl
  | m + 1 => by
    rw [List.replicate_succ, List.flatten_cons, rep_flat x m]
    rfl
theorem runP_all {es : List Int} : ∀ (m : Nat) (rs : List Ln), rs.length = m → (∀ x ∈ (runP ([es], es) rs).1, x.length = es.length) ∧ (runP ([es], es) rs).2.length = es.length
  | 0, rs, e => by
    have e2 : rs = [] := List.length_eq_zero_iff.mp e
    subst e2
    exact ⟨fun x hx => by rw [List.mem_singleton.mp hx], rfl⟩
  | m + 1, rs, e => by
    have ne : rs ≠ [] := fun z => by rw [z] at e; cases e
    obtain ⟨init, r, rfl⟩ : ∃ init r, rs = init ++ [r] := ⟨rs.dropLast, rs.getLast ne, (List.dropLast_concat_getLast ne).symm⟩
    rw [List.length_append] at e
    obtain ⟨h1, h2⟩ := runP_all (es := es) m init (by simpa using e)
    rw [runP_add]
    refine ⟨fun x hx => ?_, by rw [step_len, h2]⟩
    rcases List.mem_append.mp hx with k | k
    · exact h1 x k
    · rw [List.mem_singleton.mp k, step_len, h2]
end Rv
/-! flows; texts repeated; lists of lines compared -/
namespace Rv
open PySem PySem.Spec PyProof.Rows L2
theorem fold_reps (c : Nat) : ∀ (m : Nat) (acc : Array Nat), ((List.replicate m (one c).cps).foldl (· ++ ·) acc).toList = acc.toList ++ List.replicate m c
  | 0, acc => by simp
  | m + 1, acc => by
    rw [List.replicate_succ, List.foldl_cons, fold_reps c m, Array.toList_append, List.append_assoc]
    rfl
def rMulZ : R2 := fun x y H Q => ∃ c n : Nat, x = .str (one c) ∧ y = .int n ∧ 1 ≤ n ∧ n ≤ 12 ∧ Q (.str (txt (List.replicate n c))) H
theorem op_mulZ {X : Cx} : OpR X (binaryOp .Mult) rMulZ := by
  intro pins s σ H x y v u Q I rx ry h
  obtain ⟨c, n, rfl, rfl, n1, n12, q⟩ := h
  obtain ⟨t, rfl⟩ := rx
  obtain ⟨t', rfl⟩ := ry
  have l1 : (one c).length = 1 := rfl
  have ok : MulOk (one c) (n : Int) := by
    refine ⟨?_, fun _ _ => ?_, fun _ _ => ?_⟩
    · rw [Bool.or_eq_false_iff]
      exact ⟨decide_eq_false (by omega), decide_eq_false (by omega)⟩
    · rw [l1]
      have : (1 : Int) ≤ (2 ^ 63 - 1) / (n : Int) := by
        rw [Int.le_ediv_iff_mul_le (by omega)]
        omega
      omega
    · rw [l1, Int.toNat_natCast, Nat.one_mul]
      have hn : n = 1 ∨ n = 2 ∨ n = 3 ∨ n = 4 ∨ n = 5 ∨ n = 6 ∨ n = 7 ∨ n = 8 ∨ n = 9 ∨ n = 10 ∨ n = 11 ∨ n = 12 := by omega
      rcases hn with k | k | k | k | k | k | k | k | k | k | k | k <;> rw [k] <;> decide
  have e : Txt.mul (one c) (n : Int) = txt (List.replicate n c) := by
    unfold Txt.mul
    rw [if_neg (by omega)]
    by_cases k : n = 1
    · subst k
      rfl
    · have f : ((n : Int) == 1 || (one c).length == 0) = false := by
        rw [Bool.or_eq_false_iff]
        exact ⟨beq_eq_false_iff_ne.mpr (by omega), rfl⟩
      rw [f, if_neg Bool.false_ne_true, Int.toNat_natCast]
      refine TL.ext_tl ?_
      show ((List.replicate n (one c).cps).foldl (· ++ ·) #[]).toList = List.replicate n c
      rw [fold_reps]
      rfl
  refine SB.mul ok fun t2 k => ?_
  rw [e]
  exact ⟨.str (txt (List.replicate n c)), H, I.tok _, ⟨_, rfl⟩, q⟩
theorem rd_mulZ {c n : Nat} {H : Hp} {Q : VK} (n1 : 1 ≤ n) (n12 : n ≤ 12) (q : Q (.str (txt (List.replicate n c))) H) : rMulZ (.str (one c)) (.int n) H Q := ⟨c, n, rfl, rfl, n1, n12, q⟩
theorem rd_lstRg {te : L2.St → Hp → (Int → Int → Hp → Prop) → Prop} {σ : L2.St} {H : Hp} {Q : VK} (q : te σ H fun a b H1 => RgOk a b ∧ ∀ q, H1 q = none → Q (.ref q) (upd H1 q (.lst (rgV a b)))) : tLstRg te σ H Q := q
theorem rd_tRg1 {ta : TE} {σ : L2.St} {H : Hp} {QI : Int → Int → Hp → Prop} (q : ta σ H fun x H1 => ∃ n, x = .int n ∧ QI 0 n H1) : tRg1 ta σ H QI := q
def own (n : Nat) : List Int := (List.range n).map fun (i : Nat) => (i : Int)
theorem rg_own (n : Nat) : rgV 0 (n : Int) = (own n).map V.int := by
  unfold rgV own
  rw [List.map_map]
  have e : ((n : Int) - 0).toNat = n := by omega
  rw [e]
  refine List.map_congr_left fun i _ => ?_
  show V.int (0 + (i : Int)) = V.int (i : Int)
  rw [Int.zero_add]
theorem own_len (n : Nat) : (own n).length = n := by simp [own]
theorem own_img {n : Nat} (n1 : 1 ≤ n) (n12 : n ≤ 12) : Img (own n) := by
  refine ⟨by rw [own_len]; exact n1, by rw [own_len]; exact n12, fun e he => ?_⟩
  obtain ⟨i, hi, rfl⟩ := List.mem_map.mp he
  have := List.mem_range.mp hi
  omega
theorem own_codes {n : Nat} (n12 : n ≤ 12) : codes (own n) = List.replicate n 48 := by
  refine List.eq_replicate_iff.mpr ⟨by rw [codes_len, own_len], fun b hb => ?_⟩
  obtain ⟨e, he, rfl⟩ := List.mem_map.mp hb
  obtain ⟨i, hi, rfl⟩ := List.mem_map.mp he
  have := List.mem_range.mp hi
  unfold sg
  rw [if_neg (by omega), Int.fdiv_eq_ediv_of_nonneg _ (by decide)]
  omega
theorem car_own {n : Nat} {hs : List Int} (h : Held n hs) : carL hs (own n) = hs := by
  refine List.ext_getElem (by rw [car_len]) fun i h1 h2 => ?_
  rw [car_get2 h2]
  rcases h _ (List.getElem_mem h2) with k | ⟨k1, k2⟩
  · rw [if_pos k, k]
  · rw [if_neg (by omega), getD_get (by rw [own_len]; omega)]
    unfold own
    rw [List.getElem_map, List.getElem_range]
    omega
theorem car_base {v : List Nat} {h : List Int} (hl : h.length = v.length) (hv : ∀ (j : Nat) (k : j < v.length), v[j] = 46 → h[j]'(by omega) = -1) : carL (baseL v) h = h := by
  refine List.ext_getElem (by rw [car_len, base_len, hl]) fun i h1 h2 => ?_
  have hi : i < v.length := by omega
  rw [car_get2 (by rw [base_len]; exact hi), base_get hi]
  by_cases f : v[i] = 46
  · have e : (if v[i] = 46 then (-1 : Int) else (i : Int)) = -1 := if_pos f
    rw [e, if_pos rfl]
    exact (hv i hi f).symm
  · have e : (if v[i] = 46 then (-1 : Int) else (i : Int)) = (i : Int) := if_neg f
    rw [e, if_neg (by omega), Int.toNat_natCast, getD_get h2]
theorem base_held2 (v : List Nat) : Held v.length (baseL v) := base_held v
theorem car_held {n : Nat} {as hs : List Int} (ha : Held hs.length as) (hh : Held n hs) : Held n (carL as hs) := fun k hk => by
  obtain ⟨j, hj, rfl⟩ := List.mem_map.mp hk
  rcases ha j hj with e | ⟨e1, e2⟩
  · rw [if_pos e]; exact .inl rfl
  · rw [if_neg (by omega)]
    exact hh _ (getD_mem (by omega))
/-- what holds along a flow -/
def FInv (cs : List Nat) (p : List Int × List Nat) : Prop :=
  Held cs.length p.1 ∧ ∀ (j : Nat) (k1 : j < p.1.length) (k2 : j < p.2.length), p.1[j] = -1 ↔ p.2[j] = 46
theorem flow_turn {cs v : List Nat} {h : List Int} {r : Ln} (f1 : h.length = cs.length) (f2 : v.length = cs.length) (okr : LnOk v.length r) (F : FInv cs (h, v)) : FInv cs (carL (origL r v) h, viewL r v) := by
  obtain ⟨h1, h2⟩ := F
  have h2' : ∀ (j : Nat) (k1 : j < h.length) (k2 : j < v.length), h[j] = -1 ↔ v[j] = 46 := h2
  have ho := orig_held okr
  have hoh : Held h.length (origL r v) := by rw [f1, ← f2]; exact ho
  refine ⟨car_held hoh h1, fun j k1 k2 => ?_⟩
  have k2' : j < (viewL r v).length := k2
  have kv : j < v.length := by rw [view_len] at k2'; exact k2'
  have g : (carL (origL r v) h)[j]'k1 = _ := car_get2 (es := h) (by rw [orig_len]; exact kv)
  have g2 : (viewL r v)[j]'k2' = 46 ↔ _ := view_46 okr kv
  show (carL (origL r v) h)[j]'k1 = -1 ↔ (viewL r v)[j]'k2' = 46
  rw [g2, g]
  constructor
  · intro q
    by_cases o : (origL r v)[j]'(by rw [orig_len]; exact kv) = -1
    · exact o
    · rw [if_neg o] at q
      rcases ho _ (List.getElem_mem (show j < (origL r v).length by rw [orig_len]; exact kv)) with z | ⟨z1, z2⟩
      · exact z
      · have hk : ((origL r v)[j]'(by rw [orig_len]; exact kv)).toNat < v.length := by omega
        rw [getD_get (show _ < h.length by omega)] at q
        have q2 := (h2' _ (by omega) hk).mp q
        refine g2.mp ?_
        rw [view_get kv, if_neg o, getD_getN hk]
        exact q2
  · intro q
    rw [if_pos q]
theorem flow_inv {cs : List Nat} : ∀ (m : Nat) (rs : List Ln), rs.length = m → (∀ r ∈ rs, LnOk cs.length r) → FInv cs (flowP (baseL cs, cs) rs)
  | 0, rs, e, ok => by
    have e2 : rs = [] := List.length_eq_zero_iff.mp e
    subst e2
    refine ⟨base_held cs, fun j k1 k2 => ?_⟩
    have k3 : j < cs.length := k2
    have b : (flowP (baseL cs, cs) []).1[j]'k1 = if cs[j] = 46 then -1 else (j : Int) := base_get k3
    rw [b]
    show _ ↔ cs[j] = 46
    by_cases f : cs[j] = 46
    · rw [if_pos f]
      exact ⟨fun _ => f, fun _ => rfl⟩
    · rw [if_neg f]
      exact ⟨fun q => by omega, fun q => absurd q f⟩
  | m + 1, rs, e, ok => by
    have ne : rs ≠ [] := fun z => by rw [z] at e; cases e
    obtain ⟨init, r, rfl⟩ : ∃ init r, rs = init ++ [r] := ⟨rs.dropLast, rs.getLast ne, (List.dropLast_concat_getLast ne).symm⟩
    rw [List.length_append] at e
    have ih := flow_inv (cs := cs) m init (by simpa using e) (fun r hr => ok r (List.mem_append_left _ hr))
    obtain ⟨f1, f2⟩ := flowP_ok (cs := cs) init.length init rfl
    rw [flowP_add]
    exact flow_turn f1 f2 (by rw [f2]; exact ok r (by simp)) ih
theorem flow_img {es : List Int} (I : Img es) : ∀ (m : Nat) (rs : List Ln), rs.length = m → (∀ r ∈ rs, LnOk es.length r) → carL (flowP (baseL (codes es), codes es) rs).1 es = (runP ([es], es) rs).2
  | 0, rs, e, ok => by
    have e2 : rs = [] := List.length_eq_zero_iff.mp e
    subst e2
    refine car_base (codes_len es).symm fun j k q => ?_
    have k2 : j < es.length := by rw [codes_len] at k; exact k
    have b := base_codes I k2
    rw [base_get k, if_pos q] at b
    by_cases z : es[j] = -1
    · exact z
    · rw [if_neg z] at b
      omega
  | m + 1, rs, e, ok => by
    have ne : rs ≠ [] := fun z => by rw [z] at e; cases e
    obtain ⟨init, r, rfl⟩ : ∃ init r, rs = init ++ [r] := ⟨rs.dropLast, rs.getLast ne, (List.dropLast_concat_getLast ne).symm⟩
    rw [List.length_append] at e
    have oki : ∀ r ∈ init, LnOk es.length r := fun r hr => ok r (List.mem_append_left _ hr)
    have ih := flow_img I m init (by simpa using e) oki
    have lk := flow_look I _ init rfl oki
    obtain ⟨f1, f2⟩ := flowP_ok (cs := codes es) init.length init rfl
    have okr : LnOk (flowP (baseL (codes es), codes es) init).2.length r := by rw [f2, codes_len]; exact ok r (by simp)
    have ho := orig_held okr
    rw [flowP_add, runP_add, ← car_assoc (by rw [f1, ← f2]; exact ho), ih, lk]
    rfl
/-- a flow in two parts -/
theorem flow_join {cs : List Nat} {as : List Ln} (oka : ∀ r ∈ as, LnOk cs.length r) : ∀ (m : Nat) (bs : List Ln), bs.length = m → (∀ r ∈ bs, LnOk cs.length r) →
    flowP (baseL cs, cs) (as ++ bs) = (carL (flowP (baseL (flowP (baseL cs, cs) as).2, (flowP (baseL cs, cs) as).2) bs).1 (flowP (baseL cs, cs) as).1, (flowP (baseL (flowP (baseL cs, cs) as).2, (flowP (baseL cs, cs) as).2) bs).2)
  | 0, bs, e, ok => by
    have e2 : bs = [] := List.length_eq_zero_iff.mp e
    subst e2
    obtain ⟨f1, f2⟩ := flowP_ok (cs := cs) as.length as rfl
    obtain ⟨_, h2⟩ := flow_inv (cs := cs) as.length as rfl oka
    rw [List.append_nil]
    have c := car_base (v := (flowP (baseL cs, cs) as).2) (h := (flowP (baseL cs, cs) as).1) (by omega) fun j k q => (h2 j (by omega) k).mpr q
    show flowP (baseL cs, cs) as = (carL (baseL (flowP (baseL cs, cs) as).2) (flowP (baseL cs, cs) as).1, (flowP (baseL cs, cs) as).2)
    rw [c]
  | m + 1, bs, e, ok => by
    have ne : bs ≠ [] := fun z => by rw [z] at e; cases e
    obtain ⟨init, r, rfl⟩ : ∃ init r, bs = init ++ [r] := ⟨bs.dropLast, bs.getLast ne, (List.dropLast_concat_getLast ne).symm⟩
    rw [List.length_append] at e
    have oki : ∀ r ∈ init, LnOk cs.length r := fun r hr => ok r (List.mem_append_left _ hr)
    have ih := flow_join oka m init (by simpa using e) oki
    obtain ⟨f1, f2⟩ := flowP_ok (cs := cs) as.length as rfl
    obtain ⟨g1, g2⟩ := flowP_ok (cs := (flowP (baseL cs, cs) as).2) init.length init rfl
    rw [← List.append_assoc, flowP_add, ih, flowP_add]
    have okr : LnOk (flowP (baseL (flowP (baseL cs, cs) as).2, (flowP (baseL cs, cs) as).2) init).2.length r := by rw [g2, f2]; exact ok r (by simp)
    have ho := orig_held okr
    show (carL (origL r _) (carL _ _), _) = _
    rw [car_assoc (by rw [g1, ← g2]; exact ho)]
/-- slices -/
theorem cut_to {xs : List V} {k : Nat} (h : k ≤ xs.length) : cutV xs none (some (k : Int)) = xs.take k := by
  unfold cutV
  rw [HT.sIx_none, HT.sIx_nat, Nat.min_eq_left h, List.drop_zero, Nat.sub_zero]
theorem cut_from {xs : List V} {k : Nat} (h : k ≤ xs.length) : cutV xs (some (k : Int)) none = xs.drop k := by
  unfold cutV
  rw [HT.sIx_none, HT.sIx_nat, Nat.min_eq_left h]
  exact List.take_of_length_le (by rw [List.length_drop]; exact Nat.le_refl _)
/-! deep comparisons -/
def lnD (r : Ln) : PyData := .tuple [.str r.w, .int r.t, .int r.o, .str (txt r.g)]
theorem dp_rows {K : PySem.W.Frag} {H : Hp} : ∀ (rs : List Ln) (ps : List Addr), TupsAt H ps (rows rs) → DpAll K H (ps.map V.ref) (rs.map lnD)
  | [], ps, h => by
    have e : ps = [] := List.length_eq_zero_iff.mp h.1
    subst e
    exact .nil
  | r :: rs, [], h => by
    have := h.1
    simp [rows] at this
  | r :: rs, p :: ps, h => by
    obtain ⟨p', e1, e2⟩ := h.2 0 r.vals rfl
    have e3 : p = p' := by simpa using e1
    subst e3
    refine .cons (.tup (SqT.of e2) (.cons (.str _) (.cons (.int _) (.cons (.int _) (.cons (.str _) .nil))))) (dp_rows rs ps ⟨by simpa [rows] using h.1, fun i vs e => ?_⟩)
    obtain ⟨q, q1, q2⟩ := h.2 (i + 1) vs (by simpa [rows] using e)
    exact ⟨q, by simpa using q1, q2⟩
theorem lay_ln {n : Nat} {r : Ln} (ok : LnOk n r) : PyData.canLay0 (lnD r) = true ∧ PyData.depth (lnD r) = 1 := by
  constructor
  · show (PyData.strOk r.w && (true && (true && (PyData.strOk (txt r.g) && true)))) = true
    have h1 : PyData.strOk r.w = true := by
      rcases ok.word with ⟨e, _⟩ | ⟨e | e, _⟩ <;> rw [e] <;> decide +kernel
    have h2 : PyData.strOk (txt r.g) = true := by
      unfold PyData.strOk txt
      rw [Array.all_eq_true]
      intro i hi
      have hi2 : i < r.g.length := by simpa using hi
      have := ok.gs _ (List.getElem_mem hi2)
      unfold Sign at this
      simp
      omega
    rw [h1, h2]
    rfl
  · rfl
theorem lay_rows {n : Nat} : ∀ rs : List Ln, (∀ r ∈ rs, LnOk n r) → PyData.canLayAll0 (rs.map lnD) = true ∧ PyData.depthAll (rs.map lnD) ≤ 1
  | [], _ => ⟨rfl, Nat.zero_le _⟩
  | r :: rs, h => by
    obtain ⟨a1, a2⟩ := lay_ln (h r (List.mem_cons_self ..))
    obtain ⟨b1, b2⟩ := lay_rows rs fun r hr => h r (List.mem_cons_of_mem _ hr)
    constructor
    · show (PyData.canLay0 (lnD r) && PyData.canLayAll0 (rs.map lnD)) = true
      rw [a1, b1]
      rfl
    · show max (PyData.depth (lnD r)) (PyData.depthAll (rs.map lnD)) ≤ 1
      omega
theorem rd_neRows {K : PySem.W.Frag} {H : Hp} {Q : VK} {p p2 : Addr} {ps : List Addr} {rs : List Ln} {n : Nat} (h : H p = some (.lst (ps.map V.ref))) (h2 : H p2 = some (.lst (ps.map V.ref))) (t : TupsAt H ps (rows rs)) (ok : ∀ r ∈ rs, LnOk n r) (q : Q (.bl false) H) : rNeD K (.ref p) (.ref p2) H Q := by
  obtain ⟨a1, a2⟩ := lay_rows rs ok
  have sh : SeqAt.shaped (.list (rs.map lnD)) = true := by
    unfold SeqAt.shaped
    rw [Bool.and_eq_true]
    refine ⟨a1, decide_eq_true ?_⟩
    show PyData.depthAll (rs.map lnD) + 1 ≤ 64
    omega
  refine ⟨_, _, .lst (SqL.of h) (dp_rows rs ps t), .lst (SqL.of h2) (dp_rows rs ps t), sh, sh, ?_⟩
  have e : PyData.eqv (.list (rs.map lnD)) (.list (rs.map lnD)) = true := SeqAt.eqv_refl _ a1
  rw [e]
  exact q
theorem rd_eqInts {K : PySem.W.Frag} {H : Hp} {Q : VK} {p p2 : Addr} {xs : List Int} (h : H p = some (.tup (xs.map V.int))) (h2 : H p2 = some (.tup (xs.map V.int))) (q : Q (.bl true) H) : rEqD K (.ref p) (.ref p2) H Q := by
  obtain ⟨a1, a2⟩ := lay_ints xs
  have sh : SeqAt.shaped (.tuple (xs.map PyData.int)) = true := by
    unfold SeqAt.shaped
    rw [Bool.and_eq_true]
    refine ⟨a1, decide_eq_true ?_⟩
    show PyData.depthAll (xs.map PyData.int) + 1 ≤ 64
    omega
  refine ⟨_, _, .tup (SqT.of h) (dp_ints xs), .tup (SqT.of h2) (dp_ints xs), sh, sh, ?_⟩
  have e : PyData.eqv (.tuple (xs.map PyData.int)) (.tuple (xs.map PyData.int)) = true := SeqAt.eqv_refl _ a1
  rw [e]
  exact q
end Rv
/-! the match statement: patterns of texts, names and sequences over lists -/
namespace Rv
open PySem PySem.Spec PyProof.Rows L2
abbrev Bs := List (Nat × V)
abbrev TP := V → Hp → (Option Bs → Hp → Prop) → Prop
abbrev TPs := List V → Hp → (Option Bs → Hp → Prop) → Prop
def Nm (X : Cx) (i : Nat) (n : Str) : Prop := X.N[i]? = some n ∧ Loc X.env.scope n ∧ (X.fn n = true ∨ X.env.scope.names.lookup n = some .local)
inductive BsR (X : Cx) : Bs → List (Str × Value) → Prop where
  | nil : BsR X [] []
  | cons {i : Nat} {v : V} {n : Str} {u : Value} {b : Bs} {c : List (Str × Value)} (h : Nm X i n) (r : RelV v u) (t : BsR X b c) : BsR X ((i, v) :: b) ((n, u) :: c)
theorem BsR.app {X : Cx} {a c : Bs} {b d : List (Str × Value)} (h : BsR X a b) (k : BsR X c d) : BsR X (a ++ c) (b ++ d) := by
  induction h with
  | nil => exact k
  | cons h r t ih => exact .cons h r ih
def OBs (X : Cx) : Option Bs → Option (List (Str × Value)) → Prop
  | none, none => True
  | some a, some b => BsR X a b
  | _, _ => False
def BP (X : Cx) (pins : List (Addr × Obj)) (σ : L2.St) (Q : Option Bs → Hp → Prop) (o : Option (List (Str × Value))) (s' : Shared) : Prop := ∃ ob H', Inv X pins σ H' s' ∧ OBs X ob o ∧ Q ob H'
structure PPt (X : Cx) (p : Pattern) (t : TP) : Prop where
  run : ∀ (pins : List (Addr × Obj)) (s : Shared) (σ : L2.St) (H : Hp) (v : V) (u : Value) (Q : Option Bs → Hp → Prop), Inv X pins σ H s → RelV v u → t v H Q →
    wpAny (model X.prog X.w) X.A (matchPattern p X.env u) (BP X pins σ Q) X.xe s
structure PPs (X : Cx) (ps : List Pattern) (t : TPs) : Prop where
  run : ∀ (pins : List (Addr × Obj)) (s : Shared) (σ : L2.St) (H : Hp) (vs : List V) (us : List Value) (Q : Option Bs → Hp → Prop), Inv X pins σ H s → Vals vs us → t vs H Q →
    wpAny (model X.prog X.w) X.A (matchEach ps X.env us) (BP X pins σ Q) X.xe s
section
variable {X : Cx}
def tpCap (i : Nat) : TP := fun v H Q => Q (some [(i, v)]) H
theorem pp_cap {i : Nat} {n : Str} {pos : Pos} (hi : X.N[i]? = some n) (hx : Loc X.env.scope n) (hf : X.fn n = true ∨ X.env.scope.names.lookup n = some .local := by first | exact .inl rfl | exact .inr rfl | assumption) : PPt X (.MatchAs none (some n) pos) (tpCap i) :=
  ⟨fun pins s σ H v u Q I r q => wpAny_matchPattern_Capture ⟨some [(i, v)], H, I, BsR.cons ⟨hi, hx, hf⟩ r BsR.nil, q⟩⟩
def tpStr (c : Str) : TP := fun v H Q => ∃ z, v = .str z ∧ if decide (z = c) = true then Q (some []) H else Q none H
theorem pp_str {c : Str} {j : Nat} {p1 p2 : Pos} : PPt X (.MatchValue (.Constant (.str c) j p1) p2) (tpStr c) := by
  refine ⟨fun pins s σ H v u Q I r q => wpAny_matchPattern_Value ?_⟩
  obtain ⟨z, rfl, q⟩ := q
  refine thn ((pe_str (X := X)).run pins s σ H (fun x H1 => x = .str c ∧ H1 = H) I ⟨rfl, rfl⟩) fun w s1 hw => ?_
  obtain ⟨x, H1, I1, r1, rfl, rfl⟩ := hw
  refine thn (op_eq (X := X) pins s1 σ H1 (.str z) (.str c) u w (fun x H2 => x = .bl (decide (z = c)) ∧ H2 = H1) I1 r r1 ⟨rfl, ?_, rfl⟩) fun b s2 hb => ?_
  · congr 1
    by_cases k : z = c
    · rw [decide_eq_true k, decide_eq_true (congrArg V.str k)]
    · rw [decide_eq_false k, decide_eq_false fun e => k (V.str.inj e)]
  · obtain ⟨x, H2, I2, r2, rfl, rfl⟩ := hb
    cases r2
    refine wpAny_truthy_bool ?_
    cases e : decide (z = c) with
    | true =>
      rw [e, if_pos rfl] at q
      exact ⟨some [], H2, I2, BsR.nil, q⟩
    | false =>
      rw [e, if_neg Bool.false_ne_true] at q
      exact ⟨none, H2, I2, trivial, q⟩
def tpsNil : TPs := fun vs H Q => vs = [] ∧ Q (some []) H
theorem pps_nil : PPs X [] tpsNil := by
  refine ⟨fun pins s σ H vs us Q I r q => ?_⟩
  obtain ⟨rfl, q⟩ := q
  exact wpAny_matchEach_nil ⟨some [], H, I, BsR.nil, q⟩
def tpsCons (tp : TP) (ts : TPs) : TPs := fun vs H Q => ∃ v r, vs = v :: r ∧ tp v H fun o H1 => match o with
  | none => Q none H1
  | some bs => ts r H1 fun o2 H2 => match o2 with
    | none => Q none H2
    | some more => Q (some (bs ++ more)) H2
theorem pps_cons {p : Pattern} {ps : List Pattern} {tp : TP} {ts : TPs} (hp : PPt X p tp) (hs : PPs X ps ts) (h0 : p.isStar = false := by rfl) : PPs X (p :: ps) (tpsCons tp ts) := by
  refine ⟨fun pins s σ H vs us Q I r q => ?_⟩
  obtain ⟨v, vr, rfl, q⟩ := q
  cases r with
  | cons r rr =>
    refine wpAny_matchEach_cons (thn (hp.run pins s σ H _ _ _ I r q) fun o s1 ho => ?_) h0
    obtain ⟨ob, H1, I1, e1, q1⟩ := ho
    cases ob with
    | none =>
      cases o with
      | none => exact ⟨none, H1, I1, trivial, q1⟩
      | some _ => exact e1.elim
    | some bs =>
      cases o with
      | none => exact e1.elim
      | some cs =>
        refine thn (hs.run pins s1 σ H1 _ _ _ I1 rr q1) fun o2 s2 ho2 => ?_
        obtain ⟨ob2, H2, I2, e2, q2⟩ := ho2
        cases ob2 with
        | none =>
          cases o2 with
          | none => exact ⟨none, H2, I2, trivial, q2⟩
          | some _ => exact e2.elim
        | some b2 =>
          cases o2 with
          | none => exact e2.elim
          | some c2 => exact ⟨some (bs ++ b2), H2, I2, BsR.app e1 e2, q2⟩
def tpSeq (K : PySem.W.Frag) (n : Nat) (ts : TPs) : TP := fun v H Q => ∃ a xs, v = .ref a ∧ SqL K H a xs ∧ if decide (xs.length = n) = true then ts xs H Q else Q none H
theorem pp_seq {ps : List Pattern} {ts : TPs} {n : Nat} {pos : Pos} (hc : X.calm = true) (hs : PPs X ps ts) (hn : ps.length = n := by rfl) (hstar : ps.findIdx? (·.isStar) = none := by rfl)
    (hwild : (ps.all fun p => p.isWildcard || (p.isStar && p.names.isEmpty)) = false := by rfl) : PPt X (.MatchSequence ps pos) (tpSeq X.K n ts) := by
  refine ⟨fun pins s σ H v u Q I r q => ?_⟩
  obtain ⟨a, xs, rfl, hq, q⟩ := q
  cases r
  obtain ⟨its, rv, hl, hz⟩ := I.list hq
  have hl := hl.isList
  have le := rv.length
  have fit : ((its.toArray).size : Int) < 2 ^ 63 := by
    have : its.toArray.size ≤ sizeLine := by simpa [← le] using hz
    have h2 : sizeLine < 2 ^ 62 := by decide
    omega
  have es : its.toArray.size = xs.length := by simp [le]
  cases e : decide (xs.length = n) with
  | true =>
    have e1 := of_decide_eq_true e
    rw [e, if_pos rfl] at q
    refine matchSeq_list_hit hl fit (by rw [es, e1, hn]) ?_ hstar hwild
    have I1 := I.tok (s.toks + 1 + 1)
    have ep : ps.length = its.toArray.size := by rw [es, e1, hn]
    rw [ep]
    refine PySem.W.kun_itemsOf (I.ok.hd hc) hl fun h' he => ?_
    have I2 : Inv X pins σ H { s with heap := h', toks := s.toks + 1 + 1 } := I.kept (t' := s.toks + 1 + 1) fun b o e => he b o (Nat.ne_of_lt (Heap.lt_size e)) e
    exact hs.run pins _ σ H xs _ Q I2 (by simpa using rv) q
  | false =>
    have e1 := of_decide_eq_false e
    rw [e, if_neg Bool.false_ne_true] at q
    exact matchSeq_list_miss hl fit (by rw [es, hn]; exact e1) ⟨none, H, I.tok _, trivial, q⟩ hstar hwild
def setBs : Bs → L2.St → L2.St
  | [], σ => σ
  | (i, v) :: r, σ => setBs r (σ.set i (some v))
theorem bs_run (hN : X.N.Nodup) {b : Bs} {c : List (Str × Value)} (hb : BsR X b c) {pins : List (Addr × Obj)} : ∀ {s : Shared} {σ : L2.St} {H : Hp}, Inv X pins σ H s →
    wpAny (model X.prog X.w) X.A (assignInOrder (c.map fun (n, _) => bindName X.env n) (c.map (·.2))) (fun _ s' => Inv X pins (setBs b σ) H s') X.xe s := by
  induction hb with
  | nil => exact fun I => wpAny_assignInOrder_none I
  | cons h r t ih => exact fun I => wpAny_assignInOrder_more (wpAny_bindName (store_ok I hN h.1 h.2.1 r (fun s' I' => ih I') h.2.2))
/-- the cases' reading: on a value, in a state -/
abbrev TC := V → TS
structure PCs (X : Cx) (cs : List MatchCase) (t : TC) : Prop where
  run : ∀ (first : Bool) (pins : List (Addr × Obj)) (s : Shared) (σ : L2.St) (H : Hp) (v : V) (u : Value) (D : Ends), Inv X pins σ H s → RelV v u → t v D σ H → wpAny (model X.prog X.w) X.A (matchCases cs X.env u first) (SP X pins D) X.xe s
def tcNil : TC := fun _ D σ H => D.nx σ H
theorem pcs_nil : PCs X [] tcNil := ⟨fun _ pins s σ H v u D I r q => wpAny_matchCases_nil ⟨σ, H, I, q⟩⟩
def tcGrd (tp : TP) (tg : TT) (tb : TS) (tr : TC) : TC := fun v D σ H => tp v H fun o H1 => match o with
  | none => tr v D σ H1
  | some bs => tg (setBs bs σ) H1 fun k H2 => if k = true then tb D (setBs bs σ) H2 else tr v D (setBs bs σ) H2
theorem pcs_grd {p : Pattern} {g : Expr} {body : List Stmt} {rest : List MatchCase} {tp : TP} {tg : TT} {tb : TS} {tr : TC} (hN : X.N.Nodup) (hp : PPt X p tp) (hg : PT X g tg) (hb : PSs X body tb) (hr : PCs X rest tr) :
    PCs X (⟨p, some g, body⟩ :: rest) (tcGrd tp tg tb tr) := by
  refine ⟨fun first pins s σ H v u D I r q => wpAny_matchCases_cons (thn (hp.run pins s σ H _ _ _ I r q) fun o s1 ho => ?_)⟩
  obtain ⟨ob, H1, I1, e1, q1⟩ := ho
  cases ob with
  | none =>
    cases o with
    | none => exact hr.run false pins s1 σ H1 v u D I1 r q1
    | some _ => exact e1.elim
  | some bs =>
    cases o with
    | none => exact e1.elim
    | some cs =>
      refine thn (bs_run hN e1 I1) fun _ s2 I2 => ?_
      refine thn (hg.run pins s2 _ H1 _ I2 q1) fun ok s3 h3 => ?_
      obtain ⟨H3, I3, q3⟩ := h3
      cases ok with
      | true =>
        rw [if_pos rfl] at q3
        exact hb.run pins s3 _ H3 D I3 q3
      | false =>
        rw [if_neg Bool.false_ne_true] at q3
        exact hr.run false pins s3 _ H3 v u D I3 r q3
def tMatch (te : TE) (tc : TC) : TS := fun D σ H => te σ H fun v H1 => tc v D σ H1
theorem ps_match {e : Expr} {cs : List MatchCase} {pos : Pos} {te : TE} {tc : TC} (he : PE X e te) (hc : PCs X cs tc) : PS X (.Match e cs pos) (tMatch te tc) := by
  refine ⟨fun pins s σ H D I q => wpAny_Match (thn (he.run pins s σ H _ I q) fun u s1 hu => ?_)⟩
  obtain ⟨v, H1, I1, r, q1⟩ := hu
  exact hc.run true pins s1 σ H1 v u D I1 r q1
end
/-! steps of these readings -/
section
variable {σ : L2.St} {H : Hp} {K : PySem.W.Frag} {te : TE} {tc tr : TC} {D : Ends} {tp : TP} {ts : TPs} {tg : TT} {tb : TS} {v : V} {Q : Option Bs → Hp → Prop} {a : Addr} {xs : List V} {n : Nat} {r : List V}
theorem rd_match (q : te σ H fun v H1 => tc v D σ H1) : tMatch te tc D σ H := q
/-- a case: what the pattern says, told beforehand -/
def Hit (tp : TP) (v : V) (H : Hp) (o : Option Bs) : Prop := ∀ Q : Option Bs → Hp → Prop, Q o H → tp v H Q
theorem rd_miss (h : Hit tp v H none) (q : tr v D σ H) : tcGrd tp tg tb tr v D σ H := h _ q
theorem rd_hit {bs : Bs} (h : Hit tp v H (some bs)) (q : tg (setBs bs σ) H fun k H2 => if k = true then tb D (setBs bs σ) H2 else tr v D (setBs bs σ) H2) : tcGrd tp tg tb tr v D σ H := h _ q
theorem hit_len (h : H a = some (.lst xs)) (ne : xs.length ≠ n) : Hit (tpSeq K n ts) (.ref a) H none := fun Q q => ⟨a, xs, rfl, SqL.of h, by rw [decide_eq_false ne]; exact q⟩
def HitS (ts : TPs) (vs : List V) (H : Hp) (o : Option Bs) : Prop := ∀ Q : Option Bs → Hp → Prop, Q o H → ts vs H Q
theorem hit_seq {o : Option Bs} (h : H a = some (.lst xs)) (e : xs.length = n) (k : HitS ts xs H o) : Hit (tpSeq K n ts) (.ref a) H o := fun Q q => ⟨a, xs, rfl, SqL.of h, by rw [decide_eq_true e]; exact k Q q⟩
theorem hs_nil : HitS tpsNil [] H (some []) := fun Q q => ⟨rfl, q⟩
theorem hs_cap {i : Nat} {o : Option Bs} (k : HitS ts r H o) : HitS (tpsCons (tpCap i) ts) (v :: r) H (o.map fun b => (i, v) :: b) := fun Q q => ⟨v, r, rfl, k _ (by cases o <;> exact q)⟩
theorem hs_str {c : Str} {o : Option Bs} (k : HitS ts r H o) : HitS (tpsCons (tpStr c) ts) (.str c :: r) H o := fun Q q => ⟨.str c, r, rfl, c, rfl, by
  rw [decide_eq_true rfl]
  exact k _ (by cases o <;> exact q)⟩
theorem hs_not {c z : Str} (ne : z ≠ c) : HitS (tpsCons (tpStr c) ts) (.str z :: r) H none := fun Q q => ⟨.str z, r, rfl, z, rfl, by
  rw [decide_eq_false ne]
  exact q⟩
theorem rd_tcNil (q : D.nx σ H) : tcNil v D σ H := q
end
end Rv
/-! texts of lines: words, numbers, what is read -/
namespace Rv
open PySem PySem.Spec PyProof.Rows L2
/-! rules under names of their own -/
def rAddZ : R2 := fun x y H Q => ∃ i j, x = .str i ∧ y = .str j ∧ i.length + j.length ≤ sizeLine ∧ Q (.str (i ++ j)) H
def rIsNQ : R2 := fun x y H Q => y = .non ∧ Q (.bl (decide (x = .non))) H
def rSplitQ : V → List V → Hp → VK → Prop := fun x xs H Q => ∃ a b, x = .str a ∧ xs = [.str b] ∧ (b.length == 0) = false ∧ a.length + 2 ≤ sizeLine ∧ rNewStrs (Txt.split a b) H Q
def rIntZ : List V → Hp → VK → Prop := fun xs H Q => ∃ a n, xs = [.str a] ∧ PySem.intText? a = some n ∧ a.length ≤ 640 ∧ Q (.int n) H
def tTruQ (K : PySem.W.Frag) (ta : TE) : TT := fun σ H Q => ta σ H fun x H' => ∃ k, TruV K x H' k ∧ Q k H'
def tJoin (ts : List TE) : TE := fun σ H Q => tJs ts (txt []) σ H fun out H1 => Q (.str out) H1
section
variable {X : Cx}
theorem op_addZ : OpR X (binaryOp .Add) rAddZ := op_add_str
theorem op_isNQ : OpR X (compareOp .Is) rIsNQ := op_isN
theorem call_intZ : CallR X (.type "int") rIntZ := call_int_str
theorem pt_truQ {a : Expr} {ta : TE} (ha : PE X a ta) (he : ∀ whole, isTrue a X.env whole = (do let v ← whole; standAt a.pos; holding [v] (truthy v))) : PT X a (tTruQ X.K ta) := pt_truth ha he
theorem pe_splitQ {o e : Expr} {to te : TE} {apos pos : Pos} (ho : PE X o to) (he : PE X e te) (hs : starEach [e] X.env = [(false, eval e X.env)] := by rfl) (hbase : attributeBase o "split" X.env (eval o X.env) = eval o X.env := by rfl) (hline : (apos.endLine == pos.line) = true := by rfl) :
    PE X (.Call (.Attribute o "split" apos) [e] [] pos) (tM1 rSplitQ to te) := pe_split ho he hs hbase hline
theorem pe_joinQ {v1 v2 : Expr} {rest : List Expr} {ts : List TE} {pos : Pos} (h : PJ X (v1 :: v2 :: rest) ts) : PE X (.JoinedStr (v1 :: v2 :: rest) pos) (tJoin ts) := pe_joined h
end
theorem txt_app (a b : List Nat) : txt a ++ txt b = txt (a ++ b) := SX.S_cat a b
theorem big_line {n : Nat} (h : n ≤ 1000000) : n ≤ sizeLine := Nat.le_trans h (by decide)
section
variable {σ : L2.St} {H : Hp} {K : PySem.W.Frag} {Q : VK} {te to : TE} {ts : List TE} {a b acc : List Nat} {p : Addr} {xs : List V} {QB : Bool → Hp → Prop}
theorem rd_addZ (h : a.length + b.length ≤ 1000000) (q : Q (.str (txt (a ++ b))) H) : rAddZ (.str (txt a)) (.str (txt b)) H Q := ⟨_, _, rfl, rfl, by rw [txt_len, txt_len]; exact big_line h, by rw [txt_app]; exact q⟩
theorem rd_isN {v : V} (q : Q (.bl (decide (v = .non))) H) : rIsNQ v .non H Q := ⟨rfl, q⟩
theorem rd_M1g {r : V → List V → Hp → VK → Prop} (q : to σ H fun x H1 => (∃ a, x = .str a) ∧ te σ H1 fun y H2 => r x [y] H2 Q) : tM1 r to te σ H Q := q
theorem rd_isS {z : Str} {P : Prop} (q : P) : (∃ a, V.str z = V.str a) ∧ P := ⟨⟨z, rfl⟩, q⟩
theorem rd_split {c : Nat} (hc : c < 256) (h : a.length ≤ 1000000) (q : ∀ l, H l = none → Q (.ref l) (upd H l (.lst ((TL.spl [c] 0 [] a).map fun w => V.str (txt w))))) : rSplitQ (.str (txt a)) [.str (txt [c])] H Q := by
  refine ⟨_, _, rfl, rfl, rfl, by rw [txt_len]; exact Nat.le_trans (Nat.add_le_add_right h 2) (by decide), fun l nl => ?_⟩
  have e : Txt.split (txt a) (txt [c]) = (TL.spl [c] 0 [] a).map txt := SX.split_S (by simp) (by simp [hc])
  rw [e, List.map_map]
  exact q l nl
theorem rd_truV {i : Nat} (hv : σ[i]? = some (some (.str (txt a)))) (h : a.length ≤ 1000000) (q : QB (!a.isEmpty) H) : tTruQ K (tVar i) σ H QB := by
  refine ⟨_, hv, !a.isEmpty, ⟨by rw [txt_len]; exact big_line h, ?_⟩, q⟩
  rw [txt_len]
  cases a with
  | nil => rfl
  | cons x r =>
    symm
    show ((((x :: r).length : Nat) : Int) != 0) = true
    exact bne_iff_ne.mpr (by simp; omega)
theorem rd_tjoin (q : tJs ts (txt []) σ H fun out H1 => Q (.str out) H1) : tJoin ts σ H Q := q
theorem rd_js {t : TE} {R : Str → Hp → Prop} (q : t σ H fun x H1 => ∃ y : Str, x = .str y ∧ (txt acc ++ y).length ≤ sizeLine ∧ tJs ts (txt acc ++ y) σ H1 R) : tJs (t :: ts) (txt acc) σ H R := q
theorem rd_jsn {R : Str → Hp → Prop} {z : Str} (q : R z H) : tJs [] z σ H R := q
theorem rd_jsv {R : Str → Hp → Prop} (h : acc.length + b.length ≤ 1000000) (q : tJs ts (txt (acc ++ b)) σ H R) : ∃ y : Str, V.str (txt b) = .str y ∧ (txt acc ++ y).length ≤ sizeLine ∧ tJs ts (txt acc ++ y) σ H R :=
  ⟨_, rfl, by rw [txt_app, txt_len, List.length_append]; exact big_line h, by rw [txt_app]; exact q⟩
theorem num_txt (k : Nat) : Str.ofString (toString ((k : Nat) : Int)) = txt (TL.numL k) := TL.ext_tl (TL.tl_num k)
theorem log_small {k : Nat} (h : k < 1000) : ((k : Int).natAbs).log2 < 1920 := Nat.lt_of_le_of_lt (Nat.log2_le_self _) (by omega)
theorem rd_jsS {i : Nat} {R : Str → Hp → Prop} (hv : σ[i]? = some (some (.str (txt b)))) (h : b.length ≤ 100000) (h2 : acc.length ≤ 100000) (q : tJs ts (txt (acc ++ b)) σ H R) : tJs (tFmt (tVar i) :: ts) (txt acc) σ H R :=
  rd_js ⟨_, hv, .inl ⟨_, rfl, by rw [txt_len]; exact big_line (by omega), rd_jsv (by omega) q⟩⟩
theorem rd_jsI {i k : Nat} {R : Str → Hp → Prop} (hv : σ[i]? = some (some (.int (k : Int)))) (h : k < 1000) (h2 : acc.length ≤ 100000) (q : tJs ts (txt (acc ++ TL.numL k)) σ H R) : tJs (tFmt (tVar i) :: ts) (txt acc) σ H R :=
  rd_js ⟨_, hv, .inr ⟨_, rfl, log_small h, by
    rw [num_txt]
    exact rd_jsv (by have := TL.numL_len (n := k) (k := 3) (by decide) h; omega) q⟩⟩
theorem rd_jsC {c : Str} {R : Str → Hp → Prop} (e : c = txt b) (h : b.length ≤ 100000) (h2 : acc.length ≤ 100000) (q : tJs ts (txt (acc ++ b)) σ H R) : tJs (tC (.str c) :: ts) (txt acc) σ H R := by
  subst e
  exact rd_js (rd_jsv (by omega) q)
theorem rd_strN {k : Nat} (h : k < 1000) (q : Q (.str (txt (TL.numL k))) H) : rStrQ [.int (k : Int)] H Q := ⟨_, rfl, log_small h, by rw [← num_txt] at q; exact q⟩
end
/-! the numbers of blocks, written -/
def NUMS : List (List Nat) := (List.range 12).map TL.numL
def numsV : List V := [.str (Str.ofString "0"), .str (Str.ofString "1"), .str (Str.ofString "2"), .str (Str.ofString "3"), .str (Str.ofString "4"), .str (Str.ofString "5"), .str (Str.ofString "6"), .str (Str.ofString "7"), .str (Str.ofString "8"), .str (Str.ofString "9"), .str (Str.ofString "10"), .str (Str.ofString "11")]
theorem nums_eq : NUMS = [[48], [49], [50], [51], [52], [53], [54], [55], [56], [57], [49, 48], [49, 49]] := by decide +kernel
theorem numsV_eq : numsV = NUMS.map fun w => V.str (txt w) := by
  rw [nums_eq]
  rfl
theorem in_txts {t : List Nat} (l : List (List Nat)) : inV (.str (txt t)) (l.map fun w => V.str (txt w)) = decide (t ∈ l) := by
  induction l with
  | nil => rfl
  | cons x r ih =>
    show (eqV (.str (txt x)) (.str (txt t)) || inV (.str (txt t)) (r.map fun w => V.str (txt w))) = _
    rw [ih]
    have e : eqV (.str (txt x)) (.str (txt t)) = decide (t = x) := by
      show (txt x == txt t) = _
      have : (txt x == txt t) = decide (x = t) := SX.S_beq_eq
      rw [this]
      by_cases k : x = t
      · rw [decide_eq_true k, decide_eq_true k.symm]
      · rw [decide_eq_false k, decide_eq_false (fun z => k z.symm)]
    rw [e, Bool.eq_iff_iff]
    simp
theorem flat_txts (l : List (List Nat)) : (l.map fun w => V.str (txt w)).all flatV = true := by
  rw [List.all_eq_true]
  intro x hx
  obtain ⟨w, _, rfl⟩ := List.mem_map.mp hx
  rfl
theorem rd_inNums {K : PySem.W.Frag} {H : Hp} {Q : VK} {p : Addr} {t : List Nat} (h : ∀ H, SqT K H p numsV) (q : Q (.bl (decide (t ∈ NUMS))) H) : rIn K false (.str (txt t)) (.ref p) H Q := by
  refine ⟨p, _, rfl, .inr (h H), rfl, by rw [numsV_eq]; exact flat_txts _, ?_⟩
  rw [numsV_eq, in_txts]
  exact q
theorem rd_lenNums {K : PySem.W.Frag} {H : Hp} {Q : VK} {p : Addr} (h : ∀ H, SqT K H p numsV) (q : Q (.int 12) H) : rLenQ K [.ref p] H Q := ⟨p, _, rfl, .inr (h H), q⟩
theorem num_in {k : Nat} (h : k < 12) : TL.numL k ∈ NUMS := List.mem_map.mpr ⟨k, List.mem_range.mpr h, rfl⟩
theorem of_nums {t : List Nat} (h : t ∈ NUMS) : ∃ k, k < 12 ∧ t = TL.numL k := by
  obtain ⟨k, hk, e⟩ := List.mem_map.mp h
  exact ⟨k, List.mem_range.mp hk, e.symm⟩
theorem num_len {k : Nat} (h : k < 12) : (TL.numL k).length ≤ 2 := TL.numL_len (by decide) (by omega)
theorem rd_intN {k : Nat} {H : Hp} {Q : VK} (h : k < 12) (q : Q (.int (k : Int)) H) : rIntZ [.str (txt (TL.numL k))] H Q := by
  have l := num_len h
  refine ⟨_, _, rfl, ?_, by rw [txt_len]; omega, q⟩
  rw [← num_txt]
  exact TL.int_num (by omega)
/-! what is read -/
def wClear : List Nat := [99, 108, 101, 97, 114]
def wCopy : List Nat := [99, 111, 112, 121]
def wMove : List Nat := [109, 111, 118, 101]
def wArr : List Nat := [60, 45]
def wIf : List Nat := [105, 102]
def isSg (c : Nat) : Bool := decide (c ∈ [46, 42, 45, 48, 49, 50, 51, 52, 53, 54, 55, 56, 57])
theorem sg_iff {c : Nat} : isSg c = true ↔ Sign c := by
  unfold isSg Sign
  rw [decide_eq_true_iff]
  simp
  omega
structure RdOk (r : Ln) : Prop where
  t0 : 0 ≤ r.t
  t1 : r.t < 12
  word : (r.w = sClear ∧ r.o = -1) ∨ ((r.w = sCopy ∨ r.w = sMove) ∧ 0 ≤ r.o ∧ r.o < 12 ∧ r.o ≠ r.t)
  gl : r.g.length ≤ 12
  gs : ∀ c ∈ r.g, Sign c
def tailW (g : List Nat) : List (List Nat) := if g = [] then [] else [wIf, g]
def wordsOf (r : Ln) : List (List Nat) := (if r.w = sClear then [wClear, TL.numL r.t.toNat] else [r.w.cps.toList, TL.numL r.t.toNat, wArr, TL.numL r.o.toNat]) ++ tailW r.g
def writ (r : Ln) : List Nat := TL.joinL [32] (wordsOf r)
def readW (ws : List (List Nat)) (g : List Nat) : Option Ln :=
  match ws with
  | [a, t] => if a = wClear ∧ t ∈ NUMS then some ⟨sClear, ((NumText.digitsVal t : Nat) : Int), -1, g⟩ else none
  | [a, t, x, s] => if x = wArr ∧ ((a = wCopy ∨ a = wMove) ∧ t ≠ s) ∧ (t ∈ NUMS ∧ s ∈ NUMS) then some ⟨txt a, ((NumText.digitsVal t : Nat) : Int), ((NumText.digitsVal s : Nat) : Int), g⟩ else none
  | _ => none
def isIf (ws : List (List Nat)) : Bool := decide (2 ≤ ws.length ∧ ws.getD (ws.length - 2) [] = wIf)
def readL (row : List Nat) : Option Ln :=
  let ws := TL.spl [32] 0 [] row
  if isIf ws = true then
    (if (1 ≤ (ws.getLastD []).length ∧ (ws.getLastD []).length ≤ 12) ∧ (ws.getLastD []).all isSg = true then readW (ws.take (ws.length - 2)) (ws.getLastD []) else none)
  else readW ws []
theorem sp_free {p : List Nat} (h : ∀ c ∈ p, c ≠ 32) : 32 ∉ p := fun k => h 32 k rfl
theorem num_free (k : Nat) : 32 ∉ TL.numL k := TL.numL_free (.inl (by decide))
theorem words_free {r : Ln} (ok : RdOk r) : ∀ p ∈ wordsOf r, 32 ∉ p := by
  intro p hp
  unfold wordsOf tailW at hp
  rcases List.mem_append.mp hp with k | k
  · by_cases c : r.w = sClear
    · rw [if_pos c] at k
      simp only [List.mem_cons, List.not_mem_nil, or_false] at k
      rcases k with k | k
      · rw [k]; decide
      · rw [k]; exact num_free _
    · rw [if_neg c] at k
      have hw := (ok.word.resolve_left fun z => c z.1).1
      simp only [List.mem_cons, List.not_mem_nil, or_false] at k
      rcases k with k | k | k | k
      · rw [k]
        rcases hw with z | z <;> rw [z] <;> decide
      · rw [k]; exact num_free _
      · rw [k]; decide
      · rw [k]; exact num_free _
  · by_cases g : r.g = []
    · rw [if_pos g] at k
      exact absurd k List.not_mem_nil
    · rw [if_neg g] at k
      simp only [List.mem_cons, List.not_mem_nil, or_false] at k
      rcases k with k | k
      · rw [k]; decide
      · rw [k]
        refine sp_free fun c hc => ?_
        have := ok.gs c hc
        unfold Sign at this
        omega
theorem words_ne (r : Ln) : wordsOf r ≠ [] := by
  unfold wordsOf
  by_cases c : r.w = sClear
  · rw [if_pos c]; simp
  · rw [if_neg c]; simp
theorem spl_writ {r : Ln} (ok : RdOk r) : TL.spl [32] 0 [] (writ r) = wordsOf r := TL.spl_join (words_ne r) (words_free ok)
theorem txt_wd (w : Str) : txt w.cps.toList = w := SX.S_tl w
theorem sClear_eq : sClear = txt wClear := rfl
theorem sCopy_eq : sCopy = txt wCopy := rfl
theorem sMove_eq : sMove = txt wMove := rfl
theorem read_core {r : Ln} (ok : RdOk r) : readW (if r.w = sClear then [wClear, TL.numL r.t.toNat] else [r.w.cps.toList, TL.numL r.t.toNat, wArr, TL.numL r.o.toNat]) r.g = some r := by
  have t0 := ok.t0
  have t1 := ok.t1
  have vt : ((NumText.digitsVal (TL.numL r.t.toNat) : Nat) : Int) = r.t := by rw [TL.numL_val]; omega
  obtain ⟨w, t, o, g⟩ := r
  have t0 : 0 ≤ t := t0
  have t1 : t < 12 := t1
  have vt : ((NumText.digitsVal (TL.numL t.toNat) : Nat) : Int) = t := vt
  by_cases c : w = sClear
  · have o1 : o = -1 := by
      rcases ok.word with k | k
      · exact k.2
      · rcases k.1 with z | z <;> exact absurd (z.symm.trans c) (by decide)
    show readW (if w = sClear then _ else _) g = _
    rw [if_pos c]
    show (if wClear = wClear ∧ TL.numL t.toNat ∈ NUMS then some (⟨sClear, ((NumText.digitsVal (TL.numL t.toNat) : Nat) : Int), -1, g⟩ : Ln) else none) = _
    rw [if_pos ⟨rfl, num_in (by omega)⟩, vt, c, o1]
  · obtain ⟨hw, o0, o1, o2⟩ := ok.word.resolve_left fun z => c z.1
    have o0 : 0 ≤ o := o0
    have o1 : o < 12 := o1
    have o2 : o ≠ t := o2
    have vo : ((NumText.digitsVal (TL.numL o.toNat) : Nat) : Int) = o := by rw [TL.numL_val]; omega
    show readW (if w = sClear then _ else _) g = _
    rw [if_neg c]
    have hw2 : w.cps.toList = wCopy ∨ w.cps.toList = wMove := by
      rcases hw with z | z
      · exact .inl (by rw [show w = sCopy from z]; rfl)
      · exact .inr (by rw [show w = sMove from z]; rfl)
    have nt : TL.numL t.toNat ≠ TL.numL o.toNat := fun e => by
      have := TL.numL_inj e
      omega
    show (if wArr = wArr ∧ ((w.cps.toList = wCopy ∨ w.cps.toList = wMove) ∧ TL.numL t.toNat ≠ TL.numL o.toNat) ∧ (TL.numL t.toNat ∈ NUMS ∧ TL.numL o.toNat ∈ NUMS) then some (⟨txt w.cps.toList, ((NumText.digitsVal (TL.numL t.toNat) : Nat) : Int), ((NumText.digitsVal (TL.numL o.toNat) : Nat) : Int), g⟩ : Ln) else none) = _
    rw [if_pos ⟨rfl, ⟨hw2, nt⟩, num_in (by omega), num_in (by omega)⟩, vt, vo, txt_wd]
theorem num_ne_if (k : Nat) : TL.numL k ≠ wIf := fun e => by
  have h : 105 ∈ TL.numL k := by rw [e]; decide
  exact TL.numL_free (.inr (by decide)) h
theorem read_writ {r : Ln} (ok : RdOk r) : readL (writ r) = some r := by
  unfold readL
  rw [spl_writ ok]
  have core := read_core ok
  by_cases g : r.g = []
  · have ew : wordsOf r = (if r.w = sClear then [wClear, TL.numL r.t.toNat] else [r.w.cps.toList, TL.numL r.t.toNat, wArr, TL.numL r.o.toNat]) := by
      unfold wordsOf tailW
      rw [if_pos g, List.append_nil]
    have ni : ¬ isIf (wordsOf r) = true := by
      rw [ew]
      by_cases c : r.w = sClear
      · rw [if_pos c]
        exact fun k => absurd (show wClear = wIf from (of_decide_eq_true k).2) (by decide)
      · rw [if_neg c]
        exact fun k => absurd (show wArr = wIf from (of_decide_eq_true k).2) (by decide)
    show (if isIf (wordsOf r) = true then _ else readW (wordsOf r) []) = _
    rw [if_neg ni, ew]
    rw [g] at core
    exact core
  · have gl := ok.gl
    have gp : 0 < r.g.length := List.length_pos_iff.mpr g
    have et : tailW r.g = [wIf, r.g] := if_neg g
    have hi : isIf (wordsOf r) = true ∧ (wordsOf r).getLastD [] = r.g ∧ (wordsOf r).take ((wordsOf r).length - 2) = (if r.w = sClear then [wClear, TL.numL r.t.toNat] else [r.w.cps.toList, TL.numL r.t.toNat, wArr, TL.numL r.o.toNat]) := by
      unfold wordsOf
      rw [et]
      by_cases c : r.w = sClear
      · rw [if_pos c]
        exact ⟨rfl, rfl, rfl⟩
      · rw [if_neg c]
        exact ⟨rfl, rfl, rfl⟩
    obtain ⟨h1, h2, h3⟩ := hi
    show (if isIf (wordsOf r) = true then (if (1 ≤ ((wordsOf r).getLastD []).length ∧ ((wordsOf r).getLastD []).length ≤ 12) ∧ ((wordsOf r).getLastD []).all isSg = true then readW ((wordsOf r).take ((wordsOf r).length - 2)) ((wordsOf r).getLastD []) else none) else _) = _
    have hall : r.g.all isSg = true := by
      rw [List.all_eq_true]
      exact fun c hc => sg_iff.mpr (ok.gs c hc)
    rw [if_pos h1, h2, h3, if_pos ⟨⟨gp, gl⟩, hall⟩]
    exact core
/-- lines of text, each with its newline -/
def textOf (rs : List Ln) : List Nat := (rs.map fun r => writ r ++ [10]).flatten
theorem join_flat : ∀ l : List (List Nat), TL.joinL [] l = l.flatten
  | [] => rfl
  | [p] => by
    show p = [p].flatten
    rw [List.flatten_cons, List.flatten_nil, List.append_nil]
  | p :: q :: r => by
    show p ++ ([] ++ TL.joinL [] (q :: r)) = _
    rw [List.nil_append, join_flat (q :: r)]
    rfl
theorem join_txts (l : List (List Nat)) : Txt.join (Str.ofString "") (l.map txt) = txt l.flatten := by
  have e := SX.join_S [] l
  rw [join_flat] at e
  exact e
theorem sum_flat (l : List (List Nat)) : ((l.map txt).map (·.length)).sum = l.flatten.length := by
  induction l with
  | nil => rfl
  | cons x r ih =>
    rw [List.map_cons, List.map_cons, List.sum_cons, ih, txt_len, List.flatten_cons, List.length_append]
theorem join_nl : ∀ rs : List Ln, textOf rs = TL.joinL [10] (rs.map writ ++ [[]])
  | [] => rfl
  | r :: rs => by
    have ih := join_nl rs
    show (writ r ++ [10]) ++ textOf rs = _
    rw [ih]
    cases rs with
    | nil =>
      show (writ r ++ [10]) ++ [] = writ r ++ ([10] ++ [])
      simp
    | cons x y =>
      show _ = writ r ++ ([10] ++ TL.joinL [10] ((x :: y).map writ ++ [[]]))
      rw [List.append_assoc]
theorem writ_free {r : Ln} (ok : RdOk r) : 10 ∉ writ r := by
  have hw : ∀ p ∈ wordsOf r, 10 ∉ p := by
    intro p hp
    unfold wordsOf tailW at hp
    have nf : ∀ k : Nat, 10 ∉ TL.numL k := fun k => TL.numL_free (.inl (by decide))
    rcases List.mem_append.mp hp with k | k
    · by_cases c : r.w = sClear
      · rw [if_pos c] at k
        simp only [List.mem_cons, List.not_mem_nil, or_false] at k
        rcases k with k | k
        · rw [k]; decide
        · rw [k]; exact nf _
      · rw [if_neg c] at k
        have hw := (ok.word.resolve_left fun z => c z.1).1
        simp only [List.mem_cons, List.not_mem_nil, or_false] at k
        rcases k with k | k | k | k
        · rw [k]
          rcases hw with z | z <;> rw [z] <;> decide
        · rw [k]; exact nf _
        · rw [k]; decide
        · rw [k]; exact nf _
    · by_cases g : r.g = []
      · rw [if_pos g] at k
        exact absurd k List.not_mem_nil
      · rw [if_neg g] at k
        simp only [List.mem_cons, List.not_mem_nil, or_false] at k
        rcases k with k | k
        · rw [k]; decide
        · rw [k]
          intro z
          have := ok.gs 10 z
          unfold Sign at this
          omega
  unfold writ
  have go : ∀ l : List (List Nat), (∀ p ∈ l, 10 ∉ p) → 10 ∉ TL.joinL [32] l := by
    intro l
    induction l with
    | nil => exact fun _ => List.not_mem_nil
    | cons p r ih =>
      intro h
      cases r with
      | nil => exact h p (List.mem_cons_self ..)
      | cons q r =>
        show 10 ∉ p ++ ([32] ++ TL.joinL [32] (q :: r))
        rw [List.mem_append, List.mem_append]
        rintro (k | k | k)
        · exact h p (List.mem_cons_self ..) k
        · simp at k
        · exact ih (fun z hz => h z (List.mem_cons_of_mem _ hz)) k
  exact go _ hw
theorem spl_text {rs : List Ln} (ok : ∀ r ∈ rs, RdOk r) : TL.spl [10] 0 [] (textOf rs) = rs.map writ ++ [[]] := by
  rw [join_nl]
  refine TL.spl_join (by simp) fun p hp => ?_
  rcases List.mem_append.mp hp with k | k
  · obtain ⟨r, hr, rfl⟩ := List.mem_map.mp k
    exact writ_free (ok r hr)
  · rw [List.mem_singleton.mp k]
    exact List.not_mem_nil
theorem writ_len {r : Ln} (ok : RdOk r) : (writ r).length ≤ 40 := by
  have gl := ok.gl
  have t := num_len (k := r.t.toNat) (by have := ok.t0; have := ok.t1; omega)
  unfold writ wordsOf tailW
  by_cases c : r.w = sClear
  · rw [if_pos c]
    by_cases g : r.g = []
    · rw [if_pos g]
      show (wClear ++ ([32] ++ TL.numL r.t.toNat)).length ≤ 40
      simp [wClear]; omega
    · rw [if_neg g]
      show (wClear ++ ([32] ++ (TL.numL r.t.toNat ++ ([32] ++ (wIf ++ ([32] ++ r.g)))))).length ≤ 40
      simp [wClear, wIf]; omega
  · obtain ⟨hw, o0, o1, o2⟩ := ok.word.resolve_left fun z => c z.1
    have o := num_len (k := r.o.toNat) (by omega)
    have lw : r.w.cps.toList.length = 4 := by rcases hw with z | z <;> rw [z] <;> rfl
    rw [if_neg c]
    by_cases g : r.g = []
    · rw [if_pos g]
      show (r.w.cps.toList ++ ([32] ++ (TL.numL r.t.toNat ++ ([32] ++ (wArr ++ ([32] ++ TL.numL r.o.toNat)))))).length ≤ 40
      simp only [List.length_append, lw]
      simp [wArr]; omega
    · rw [if_neg g]
      show (r.w.cps.toList ++ ([32] ++ (TL.numL r.t.toNat ++ ([32] ++ (wArr ++ ([32] ++ (TL.numL r.o.toNat ++ ([32] ++ (wIf ++ ([32] ++ r.g)))))))))).length ≤ 40
      simp only [List.length_append, lw]
      simp [wArr, wIf]; omega
/-- the text of a line, in its parts -/
theorem writ_parts {r : Ln} : writ r = (if r.w = sClear then wClear ++ ([32] ++ TL.numL r.t.toNat) else r.w.cps.toList ++ ([32] ++ (TL.numL r.t.toNat ++ ([32, 60, 45, 32] ++ TL.numL r.o.toNat)))) ++ (if r.g = [] then [] else [32, 105, 102, 32] ++ r.g) := by
  unfold writ wordsOf tailW
  by_cases c : r.w = sClear <;> by_cases g : r.g = []
  · rw [if_pos c, if_pos c, if_pos g, if_pos g, List.append_nil, List.append_nil]; rfl
  · rw [if_pos c, if_pos c, if_neg g, if_neg g]
    show wClear ++ ([32] ++ (TL.numL r.t.toNat ++ ([32] ++ (wIf ++ ([32] ++ r.g))))) = _
    simp [wIf]
  · rw [if_neg c, if_neg c, if_pos g, if_pos g, List.append_nil, List.append_nil]
    show r.w.cps.toList ++ ([32] ++ (TL.numL r.t.toNat ++ ([32] ++ (wArr ++ ([32] ++ TL.numL r.o.toNat))))) = _
    simp [wArr]
  · rw [if_neg c, if_neg c, if_neg g, if_neg g]
    show r.w.cps.toList ++ ([32] ++ (TL.numL r.t.toNat ++ ([32] ++ (wArr ++ ([32] ++ (TL.numL r.o.toNat ++ ([32] ++ (wIf ++ ([32] ++ r.g))))))))) = _
    simp [wArr, wIf]
theorem writ_small {r : Ln} (ok : RdOk r) : ∀ c ∈ writ r, c < 128 := by
  have nl : ∀ (k c : Nat), c ∈ TL.numL k → c < 128 := fun k c hc => by
    have := TL.numL_digits k c hc
    omega
  have lst : ∀ (l : List Nat), l.all (· < 128) = true → ∀ c ∈ l, c < 128 := fun l h c hc => of_decide_eq_true (List.all_eq_true.mp h c hc)
  rw [writ_parts]
  intro c hc
  rcases List.mem_append.mp hc with k | k
  · by_cases z : r.w = sClear
    · rw [if_pos z] at k
      rcases List.mem_append.mp k with k | k
      · exact lst _ (by decide) c k
      · rcases List.mem_append.mp k with k | k
        · exact lst _ (by decide) c k
        · exact nl _ c k
    · rw [if_neg z] at k
      have hw := (ok.word.resolve_left fun y => z y.1).1
      rcases List.mem_append.mp k with k | k
      · rcases hw with y | y <;> rw [y] at k <;> exact lst _ (by decide) c k
      · rcases List.mem_append.mp k with k | k
        · exact lst _ (by decide) c k
        · rcases List.mem_append.mp k with k | k
          · exact nl _ c k
          · rcases List.mem_append.mp k with k | k
            · exact lst _ (by decide) c k
            · exact nl _ c k
  · by_cases z : r.g = []
    · rw [if_pos z] at k
      exact absurd k List.not_mem_nil
    · rw [if_neg z] at k
      rcases List.mem_append.mp k with k | k
      · exact lst _ (by decide) c k
      · have := ok.gs c k
        unfold Sign at this
        omega
theorem text_len : ∀ {rs : List Ln}, (∀ r ∈ rs, RdOk r) → (textOf rs).length ≤ 41 * rs.length
  | [], _ => Nat.le_refl _
  | r :: rs, h => by
    have w := writ_len (h r (List.mem_cons_self ..))
    have ih := text_len (rs := rs) fun x hx => h x (List.mem_cons_of_mem _ hx)
    show ((writ r ++ [10]) ++ textOf rs).length ≤ _
    rw [List.length_append, List.length_append, List.length_cons]
    simp only [List.length_cons, List.length_nil]
    omega
def rJoinT (K : PySem.W.Frag) : V → List V → Hp → VK → Prop := fun x xs H Q => ∃ a p, ∃ ys : List Str, x = .str a ∧ xs = [.ref p] ∧ (SqL K H p (ys.map V.str) ∨ SqT K H p (ys.map V.str)) ∧ (ys.map (·.length)).sum + ys.length * a.length ≤ 16777216 ∧ Q (.str (Txt.join a ys)) H
theorem pe_joinT {X : Cx} {o e : Expr} {to te : TE} {apos pos : Pos} (ho : PE X o to) (he : PE X e te) (hs : starEach [e] X.env = [(false, eval e X.env)] := by rfl) (hbase : attributeBase o "join" X.env (eval o X.env) = eval o X.env := by rfl) (hline : (apos.endLine == pos.line) = true := by rfl) :
    PE X (.Call (.Attribute o "join" apos) [e] [] pos) (tM1 (rJoinT X.K) to te) := pe_join ho he hs hbase hline
theorem rd_joinT {K : PySem.W.Frag} {H : Hp} {Q : VK} {p : Addr} {ws : List (List Nat)} (h : H p = some (.lst (ws.map fun w => V.str (txt w)))) (hl : ws.flatten.length ≤ 1000000) (q : Q (.str (txt ws.flatten)) H) : rJoinT K (.str (Str.ofString "")) [.ref p] H Q := by
  refine ⟨_, p, ws.map txt, rfl, rfl, .inl (SqL.of (by rw [List.map_map]; exact h)), ?_, ?_⟩
  · rw [sum_flat]
    show _ + _ * 0 ≤ _
    omega
  · rw [join_txts]
    exact q
/-! deep comparisons of lines that are read -/
theorem lay_rd {r : Ln} (ok : RdOk r) : PyData.canLay0 (lnD r) = true ∧ PyData.depth (lnD r) = 1 := by
  constructor
  · show (PyData.strOk r.w && (true && (true && (PyData.strOk (txt r.g) && true)))) = true
    have h1 : PyData.strOk r.w = true := by
      rcases ok.word with ⟨e, _⟩ | ⟨e | e, _⟩ <;> rw [e] <;> decide +kernel
    have h2 : PyData.strOk (txt r.g) = true := by
      unfold PyData.strOk txt
      rw [Array.all_eq_true]
      intro i hi
      have hi2 : i < r.g.length := by simpa using hi
      have := ok.gs _ (List.getElem_mem hi2)
      unfold Sign at this
      simp
      omega
    rw [h1, h2]
    rfl
  · rfl
theorem rd_neLn {K : PySem.W.Frag} {H : Hp} {Q : VK} {p p2 : Addr} {r : Ln} (h : H p = some (.tup r.vals)) (h2 : H p2 = some (.tup r.vals)) (ok : RdOk r) (q : Q (.bl false) H) : rNeD K (.ref p) (.ref p2) H Q := by
  obtain ⟨a1, a2⟩ := lay_rd ok
  have sh : SeqAt.shaped (lnD r) = true := by
    unfold SeqAt.shaped
    rw [Bool.and_eq_true]
    refine ⟨a1, decide_eq_true ?_⟩
    rw [a2]
    decide
  have dp : ∀ {p : Addr}, H p = some (.tup r.vals) → Dp K H (.ref p) (lnD r) := fun h => .tup (SqT.of h) (.cons (.str _) (.cons (.int _) (.cons (.int _) (.cons (.str _) .nil))))
  refine ⟨_, _, dp h, dp h2, sh, sh, ?_⟩
  have e : PyData.eqv (lnD r) (lnD r) = true := SeqAt.eqv_refl _ a1
  rw [e]
  exact q
theorem rd_neRd {K : PySem.W.Frag} {H : Hp} {Q : VK} {p p2 : Addr} {ps : List Addr} {rs : List Ln} (h : H p = some (.lst (ps.map V.ref))) (h2 : H p2 = some (.lst (ps.map V.ref))) (t : TupsAt H ps (rows rs)) (ok : ∀ r ∈ rs, RdOk r) (q : Q (.bl false) H) : rNeD K (.ref p) (.ref p2) H Q := by
  have lay : ∀ rs : List Ln, (∀ r ∈ rs, RdOk r) → PyData.canLayAll0 (rs.map lnD) = true ∧ PyData.depthAll (rs.map lnD) ≤ 1 := by
    intro rs
    induction rs with
    | nil => exact fun _ => ⟨rfl, Nat.zero_le _⟩
    | cons r rs ih =>
      intro h
      obtain ⟨a1, a2⟩ := lay_rd (h r (List.mem_cons_self ..))
      obtain ⟨b1, b2⟩ := ih fun r hr => h r (List.mem_cons_of_mem _ hr)
      constructor
      · show (PyData.canLay0 (lnD r) && PyData.canLayAll0 (rs.map lnD)) = true
        rw [a1, b1]
        rfl
      · show max (PyData.depth (lnD r)) (PyData.depthAll (rs.map lnD)) ≤ 1
        omega
  obtain ⟨a1, a2⟩ := lay rs ok
  have sh : SeqAt.shaped (.list (rs.map lnD)) = true := by
    unfold SeqAt.shaped
    rw [Bool.and_eq_true]
    refine ⟨a1, decide_eq_true ?_⟩
    show PyData.depthAll (rs.map lnD) + 1 ≤ 64
    omega
  refine ⟨_, _, .lst (SqL.of h) (dp_rows rs ps t), .lst (SqL.of h2) (dp_rows rs ps t), sh, sh, ?_⟩
  have e : PyData.eqv (.list (rs.map lnD)) (.list (rs.map lnD)) = true := SeqAt.eqv_refl _ a1
  rw [e]
  exact q
/-- words[-2:-1] against ['if'] -/
theorem cut_if {ws : List (List Nat)} (ne : ws ≠ []) : cutV (ws.map fun w => V.str (txt w)) (some (-2)) (some (-1)) = (if 2 ≤ ws.length then [V.str (txt (ws.getD (ws.length - 2) []))] else []) := by
  have l0 : 0 < ws.length := List.length_pos_iff.mpr ne
  have e1 : HT.sIx (ws.map fun w => V.str (txt w)).length 0 (some (-2)) = ws.length - 2 := by
    unfold HT.sIx
    rw [List.length_map]
    show (if (-2 : Int) < 0 then ((-2 : Int) + (ws.length : Int)).toNat else _) = _
    rw [if_pos (by decide)]
    omega
  have e2 : HT.sIx (ws.map fun w => V.str (txt w)).length (ws.map fun w => V.str (txt w)).length (some (-1)) = ws.length - 1 := by
    unfold HT.sIx
    rw [List.length_map]
    show (if (-1 : Int) < 0 then ((-1 : Int) + (ws.length : Int)).toNat else _) = _
    rw [if_pos (by decide)]
    omega
  unfold cutV
  rw [e1, e2]
  by_cases k : 2 ≤ ws.length
  · have e3 : ws.length - 1 - (ws.length - 2) = 1 := by omega
    have hl : ws.length - 2 < ws.length := by omega
    rw [if_pos k, e3, ← List.map_drop, List.drop_eq_getElem_cons hl, List.getD_eq_getElem?_getD, List.getElem?_eq_getElem hl]
    rfl
  · have e3 : ws.length - 1 - (ws.length - 2) = 0 := by omega
    rw [if_neg k, e3, List.take_zero]
theorem cut_to_m2 {ws : List (List Nat)} (h : 2 ≤ ws.length) : cutV (ws.map fun w => V.str (txt w)) none (some (-2)) = (ws.take (ws.length - 2)).map fun w => V.str (txt w) := by
  have e2 : HT.sIx (ws.map fun w => V.str (txt w)).length (ws.map fun w => V.str (txt w)).length (some (-2)) = ws.length - 2 := by
    unfold HT.sIx
    rw [List.length_map]
    show (if (-2 : Int) < 0 then ((-2 : Int) + (ws.length : Int)).toNat else _) = _
    rw [if_pos (by decide)]
    omega
  unfold cutV
  rw [e2, HT.sIx_none, List.drop_zero, Nat.sub_zero, List.map_take]
theorem cut_to_m1 {ws : List V} : cutV ws none (some (-1)) = ws.dropLast := by
  have e2 : HT.sIx ws.length ws.length (some (-1)) = ws.length - 1 := by
    unfold HT.sIx
    show (if (-1 : Int) < 0 then ((-1 : Int) + (ws.length : Int)).toNat else _) = _
    rw [if_pos (by decide)]
    omega
  unfold cutV
  rw [e2, HT.sIx_none, List.drop_zero, Nat.sub_zero, List.dropLast_eq_take]
theorem rd_neIf {K : PySem.W.Frag} {H : Hp} {Q : VK} {p p2 : Addr} {ws : List (List Nat)} (h : H p = some (.lst (if 2 ≤ ws.length then [V.str (txt (ws.getD (ws.length - 2) []))] else []))) (h2 : H p2 = some (.lst [.str (txt wIf)])) (hc : ∀ w ∈ ws, ∀ c ∈ w, c < 128) (q : Q (.bl (!isIf ws)) H) : rNeD K (.ref p) (.ref p2) H Q := by
  have ok : ∀ w : List Nat, (∀ c ∈ w, c < 128) → PyData.strOk (txt w) = true := fun w hw => by
    unfold PyData.strOk txt
    rw [Array.all_eq_true]
    intro i hi
    have hi2 : i < w.length := by simpa using hi
    have := hw _ (List.getElem_mem hi2)
    simp
    omega
  have sh1 : ∀ w : List Nat, (∀ c ∈ w, c < 128) → SeqAt.shaped (.list [.str (txt w)]) = true := fun w hw => by
    unfold SeqAt.shaped
    rw [Bool.and_eq_true]
    refine ⟨?_, decide_eq_true (show max (0 : Nat) 0 + 1 ≤ 64 by decide)⟩
    show (PyData.strOk (txt w) && true) = true
    rw [ok w hw]
    rfl
  have h3 : ∀ c ∈ wIf, c < 128 := by decide
  by_cases k : 2 ≤ ws.length
  · rw [if_pos k] at h
    have hl : ws.length - 2 < ws.length := by omega
    have hm : ws.getD (ws.length - 2) [] ∈ ws := by
      rw [List.getD_eq_getElem?_getD, List.getElem?_eq_getElem hl]
      exact List.getElem_mem hl
    refine ⟨.list [.str (txt (ws.getD (ws.length - 2) []))], .list [.str (txt wIf)], .lst (SqL.of h) (.cons (.str _) .nil), .lst (SqL.of h2) (.cons (.str _) .nil), sh1 _ (hc _ hm), sh1 _ h3, ?_⟩
    have e : PyData.eqv (.list [.str (txt (ws.getD (ws.length - 2) []))]) (.list [.str (txt wIf)]) = isIf ws := by
      have e1 : PyData.eqv (.list [.str (txt (ws.getD (ws.length - 2) []))]) (.list [.str (txt wIf)]) = ((txt (ws.getD (ws.length - 2) []) == txt wIf) && true) := rfl
      rw [e1, Bool.and_true]
      have : (txt (ws.getD (ws.length - 2) []) == txt wIf) = decide (ws.getD (ws.length - 2) [] = wIf) := SX.S_beq_eq
      rw [this]
      unfold isIf
      by_cases z : ws.getD (ws.length - 2) [] = wIf
      · rw [decide_eq_true z, decide_eq_true ⟨k, z⟩]
      · rw [decide_eq_false z, decide_eq_false fun y => z y.2]
    rw [e]
    exact q
  · rw [if_neg k] at h
    refine ⟨.list [], .list [.str (txt wIf)], .lst (SqL.of h) .nil, .lst (SqL.of h2) (.cons (.str _) .nil), by decide, sh1 _ h3, ?_⟩
    have e : isIf ws = false := decide_eq_false fun z => k z.1
    rw [e] at q
    exact q
theorem spl_ne (S : List Nat) : ∀ (l : List Nat) {k : Nat} {acc : List Nat}, TL.spl S k acc l ≠ []
  | [], k, acc => by rw [TL.spl_nil]; simp
  | c :: r, 0, acc => by
    show (if TL.pre S (c :: r) = true then acc :: TL.spl S (S.length - 1) [] r else TL.spl S 0 (acc ++ [c]) r) ≠ []
    by_cases h : TL.pre S (c :: r) = true
    · rw [if_pos h]; simp
    · rw [if_neg h]; exact spl_ne S r
  | c :: r, k + 1, acc => spl_ne S r
theorem spl_mem' (S : List Nat) : ∀ (l : List Nat) {k : Nat} {acc w : List Nat} {x : Nat}, w ∈ TL.spl S k acc l → x ∈ w → x ∈ acc ∨ x ∈ l
  | [], k, acc, w, x, hw, hx => by
    rw [TL.spl_nil] at hw
    rw [List.mem_singleton.mp hw] at hx
    exact .inl hx
  | c :: r, 0, acc, w, x, hw, hx => by
    have e : TL.spl S 0 acc (c :: r) = (if TL.pre S (c :: r) = true then acc :: TL.spl S (S.length - 1) [] r else TL.spl S 0 (acc ++ [c]) r) := rfl
    rw [e] at hw
    by_cases h : TL.pre S (c :: r) = true
    · rw [if_pos h] at hw
      rcases List.mem_cons.mp hw with z | z
      · rw [z] at hx; exact .inl hx
      · rcases spl_mem' S r z hx with y | y
        · exact absurd y List.not_mem_nil
        · exact .inr (List.mem_cons_of_mem _ y)
    · rw [if_neg h] at hw
      rcases spl_mem' S r hw hx with y | y
      · rcases List.mem_append.mp y with y | y
        · exact .inl y
        · rw [List.mem_singleton.mp y]; exact .inr (List.mem_cons_self ..)
      · exact .inr (List.mem_cons_of_mem _ y)
  | c :: r, k + 1, acc, w, x, hw, hx => by
    rcases spl_mem' S r (k := k) hw hx with y | y
    · exact .inl y
    · exact .inr (List.mem_cons_of_mem _ y)
theorem spl_mem {S l w : List Nat} {x : Nat} (hw : w ∈ TL.spl S 0 [] l) (hx : x ∈ w) : x ∈ l := (spl_mem' S l hw hx).resolve_left List.not_mem_nil
theorem spl_len' (S : List Nat) : ∀ (l : List Nat) {k : Nat} {acc w : List Nat}, w ∈ TL.spl S k acc l → w.length ≤ acc.length + l.length
  | [], k, acc, w, hw => by
    rw [TL.spl_nil] at hw
    rw [List.mem_singleton.mp hw]
    exact Nat.le_refl _
  | c :: r, 0, acc, w, hw => by
    have e : TL.spl S 0 acc (c :: r) = (if TL.pre S (c :: r) = true then acc :: TL.spl S (S.length - 1) [] r else TL.spl S 0 (acc ++ [c]) r) := rfl
    rw [e] at hw
    rw [List.length_cons]
    by_cases h : TL.pre S (c :: r) = true
    · rw [if_pos h] at hw
      rcases List.mem_cons.mp hw with z | z
      · rw [z]; omega
      · have := spl_len' S r z
        simp at this
        omega
    · rw [if_neg h] at hw
      have := spl_len' S r hw
      rw [List.length_append] at this
      simp at this
      omega
  | c :: r, k + 1, acc, w, hw => by
    have := spl_len' S r (k := k) hw
    rw [List.length_cons]
    omega
theorem spl_len (S l : List Nat) : ∀ w ∈ TL.spl S 0 [] l, w.length ≤ l.length := fun w hw => by
  have := spl_len' S l hw
  simpa using this
theorem ones_flat : ∀ gs : List Nat, (gs.map fun c => [c]).flatten = gs
  | [] => rfl
  | x :: r => by
    rw [List.map_cons, List.flatten_cons, ones_flat r]
    rfl
theorem slT {K : PySem.W.Frag} {H : Hp} {Q : VK} {p : Addr} {xs : List V} {k : Nat} (h : H p = some (.lst xs)) (hk : k ≤ xs.length) (q : ∀ H' l, Same H H' → H l = none → H' l = some (.lst (xs.take k)) → Q (.ref l) H') : rSlL K (.ref p) none (some (k : Int)) H Q :=
  rd_slL (SqL.of h) fun l nl => by
    rw [cut_to hk]
    obtain ⟨H2, e2, S2, h2⟩ := new_gen (.lst (xs.take k)) nl
    rw [← e2]
    exact q H2 l S2 nl h2
theorem slF {K : PySem.W.Frag} {H : Hp} {Q : VK} {p : Addr} {xs : List V} {k : Nat} (h : H p = some (.lst xs)) (hk : k ≤ xs.length) (q : ∀ H' l, Same H H' → H l = none → H' l = some (.lst (xs.drop k)) → Q (.ref l) H') : rSlL K (.ref p) (some (k : Int)) none H Q :=
  rd_slL (SqL.of h) fun l nl => by
    rw [cut_from hk]
    obtain ⟨H2, e2, S2, h2⟩ := new_gen (.lst (xs.drop k)) nl
    rw [← e2]
    exact q H2 l S2 nl h2
theorem rows_take {H : Hp} {ps : List Addr} {rs : List Ln} (t : TupsAt H ps (rows rs)) (k : Nat) : TupsAt H (ps.take k) (rows (rs.take k)) := by
  have q := t.take k
  unfold rows at *
  rw [← List.map_take] at q
  exact q
theorem rows_drop {H : Hp} {ps : List Addr} {rs : List Ln} (t : TupsAt H ps (rows rs)) (k : Nat) : TupsAt H (ps.drop k) (rows (rs.drop k)) := by
  have q := t.drop k
  unfold rows at *
  rw [← List.map_drop] at q
  exact q
theorem take_all {p : Ln → Prop} {rs : List Ln} {i : Nat} (h : ∀ r ∈ rs, p r) : ∀ r ∈ rs.take i, p r := fun r hr => h r (List.mem_of_mem_take hr)
theorem drop_all {p : Ln → Prop} {rs : List Ln} {i : Nat} (h : ∀ r ∈ rs, p r) : ∀ r ∈ rs.drop i, p r := fun r hr => h r (List.mem_of_mem_drop hr)
/-- a comprehension within a def that draws, the items objects -/
theorem lc_wdH {c b : Addr} {ns : List Int} {J : It} {n : Nat} {G : Hp → Prop} {Y : Nat → Hp → V → Hp → Prop} (w : Walk J n G Y) {g : TG} {tt : TT} {te : TE} {vs : List Nat} {σ : L2.St} {H0 : Hp} {Q : VK} (B : Bag c ns b H0) (Pv : Nat → List V → Hp → Prop) (p0 : ∀ H, Pv 0 [] H)
    (st : ∀ i acc H H', Wd c ns b H H' → Pv i acc H → Pv i acc H') (mu : ∀ i acc H D o xs, H D = some (.lst xs) → Pv i acc H → Pv i acc (upd H D o))
    (sm : ∀ i acc H, Pv i acc H → acc.length < 1000) (hG : ∀ H, Wd c ns b H0 H → G H)
    (hs : ∀ i x H H' acc (Qc : VK) (R : Hp → Prop), i < n → Wd c ns b H0 H → Pv i acc H → Y i H x H' → (∀ y H4, Wd c ns b H H4 → Pv (i + 1) (acc ++ [y]) H4 → Qc y H4) → (∀ H4, Wd c ns b H H4 → Pv (i + 1) acc H4 → R H4) →
      g x (wipe σ vs) H' fun σ2 H2 => wipe σ2 vs = wipe σ vs ∧ tt σ2 H2 fun b H3 => if b = true then te σ2 H3 Qc else R H3)
    (hd : ∀ H D acc, Wd c ns b H0 H → H0 D = none → H D = some (.lst acc) → Pv n acc H → Q (.ref D) H) : Lc J g tt te vs σ H0 Q := fun D nD =>
  lc_it w (Qd := fun H => Q (.ref D) H) (fun i H => Wd c ns b H0 H ∧ ∃ acc, H D = some (.lst acc) ∧ Pv i acc H) ⟨(Wd.refl B).mut nD, [], upd_same, p0 _⟩ (fun i H _ p => hG H p.1)
    (fun i x H H' hi p y => by
      obtain ⟨w0, acc, hD, pa⟩ := p
      have nDb : D ≠ b := B.ne nD
      refine hs i x H H' acc _ _ hi w0 pa y (fun z H4 w4 pz => ?_) (fun H4 w4 pz => ⟨w0.trans w4, acc, w4.lst nDb hD, pz⟩)
      have h4 := w4.lst nDb hD
      exact ⟨acc, h4, small1000 (by have := sm i acc _ pa; omega), (w0.trans w4).mut nD, _, upd_same, mu _ _ _ _ _ _ h4 pz⟩)
    (fun H p => by
      obtain ⟨w0, acc, hD, pa⟩ := p
      exact hd H D acc w0 nD hD pa)
end Rv
/-! own errors: made, raised, caught, asked -/
namespace Rv
open PySem PySem.Spec PyProof.Rows L2
/-- what stands at the top under a name, if it is an object -/
def atTop (K : PySem.W.Frag) (x : Str) : Addr := match PySem.W.nsIn K mainGlobals x with
  | some (some (.ref a)) => a
  | _ => 0
theorem atTop_of {K : PySem.W.Frag} {x : Str} {a : Addr} (h : PySem.W.nsIn K mainGlobals x = some (some (.ref a))) : atTop K x = a := by
  unfold atTop
  rw [h]
/-- an error class with one field f, its own maker at fI -/
structure ErrT (K : PySem.W.Frag) (mg : Str → Option Value) (C fI : Addr) (x f : Str) : Prop where
  gC : mg x = some (.ref C)
  ox : OexC K C
  xf : XfC K C
  ec : ExcC K C
  icl : PySem.W.isClsIn K C = true
  noN : PySem.W.findIn K (.ref C) f = some none
  iC : PySem.W.findIn K (.ref C) "__init__" = some (some (.ref fI))
  tI : PySem.W.typeIn K (.ref fI) = some (.type "function")
/-- isinstance of the exception that the suite holds, of an own class, with a dict -/
def rIsX (K : PySem.W.Frag) (D a : Addr) (cls : Value) (d : Option Addr) : List V → Hp → VK → Prop := fun xs H Q => ∃ (c : V) (cv : Value) (b : Bool) (dd : Addr) (fs : List (Str × V)), xs = [.ref a, c] ∧ (∀ u, RelV c u → u = cv) ∧ PySem.W.kitOne K (.ref D) cv = some b ∧ cls = .ref D ∧ d = some dd ∧ H dd = some (.xd fs) ∧ Q (.bl b) H
theorem call_isX {X : Cx} {a D : Addr} {oe : Obj} {cls : Value} {d : Option Addr} {pn : List (Addr × Obj)} (C : ExcC X.K D) (hcl : (PySem.W.clsIn X.K D).isSome = true) (hz : Zc cls d oe) (hf : ∃ vs, oe.data = .fields vs) :
    CallR (X.suite a ((a, oe) :: pn)) (.builtin "isinstance") (rIsX X.K D a cls d) := by
  intro pins s σ H xs us Q I r h
  obtain ⟨c, cv, b, dd, fs, rfl, hcv, e, rfl, rfl, ea, q⟩ := h
  cases r with
  | cons rx rr =>
    cases rr with
    | cons rt rr =>
      cases rr
      cases rx
      have ec := hcv _ rt
      subst ec
      obtain ⟨ha, _⟩ := I.pin (a, oe) (List.mem_append_left _ List.mem_cons_self)
      obtain ⟨vs, hd⟩ := hf
      have hx : ObjOk X.prog X.w H s.heap dd (.xd fs) := I.hok dd _ ea
      obtain ⟨mA, hns, _⟩ := hx
      obtain ⟨od, ho, _⟩ := lookIn_ns hns
      have J : PySem.W.InstAt s.heap a oe D (some od) := ⟨ha, hz.1, by unfold PySem.W.notCls; rw [hd] <;> rfl, by rw [hz.2]; exact ho⟩
      exact PySem.W.kia_one (PySem.W.kitx_exc hcl C.hg C.hk C.hs C.ha C.hn C.ht C.hm) I.kIn J e (fun z => nomatch z) fun tk => ⟨.bl b, H, I.kept (t' := tk) fun _ _ z => z, rfl, q⟩
theorem exm_of {K : PySem.W.Frag} {S T : Addr} {b : Bool} (h1 : PySem.W.subIn K (.ref T) (.type "BaseException") = some true) (h2 : PySem.W.isClsIn K T = true) (h3 : PySem.W.typeIn K (.ref T) = some (.type "type")) (h4 : PySem.W.subIn K (.ref S) (.ref T) = some b) :
    PySem.W.exmOne K (.ref S) (.ref T) = some b := by
  have e1 : (PySem.W.subIn K (.ref T) (.type "BaseException") == some true) = true := by rw [h1] <;> rfl
  have e2 : ((PySem.W.clsIn K T).isSome && PySem.W.typeIn K (.ref T) == some (.type "type")) = true := by
    have h2' : (PySem.W.clsIn K T).isSome = true := h2
    rw [h2', h3] <;> rfl
  show (if (PySem.W.subIn K (.ref T) (.type "BaseException") == some true) = true then (if ((PySem.W.clsIn K T).isSome && PySem.W.typeIn K (.ref T) == some (.type "type")) = true then PySem.W.subIn K (.ref S) (.ref T) else none) else none) = some b
  rw [if_pos e1, if_pos e2]
  exact h4
theorem kit_refF {K : PySem.W.Frag} {S T : Addr} (h2 : PySem.W.isClsIn K T = true) (h3 : PySem.W.typeIn K (.ref T) = some (.type "type")) (h4 : PySem.W.subIn K (.ref S) (.ref T) = some false) (h5 : PySem.W.subIn K (.ref S) (.ref S) = some true) :
    PySem.W.kitOne K (.ref S) (.ref T) = some false := by
  have ne : (Value.ref S == Value.ref T) = false := by
    refine Bool.eq_false_iff.mpr fun q => ?_
    have e : S = T := Value.ref.inj (beq_iff_eq.mp q)
    rw [← e, h5] at h4
    cases h4
  have e2 : ((PySem.W.clsIn K T).isSome && PySem.W.typeIn K (.ref T) == some (.type "type")) = true := by
    have h2' : (PySem.W.clsIn K T).isSome = true := h2
    rw [h2', h3] <;> rfl
  show (if (Value.ref S == Value.ref T) = true then some true else if ((PySem.W.clsIn K T).isSome && PySem.W.typeIn K (.ref T) == some (.type "type")) = true then PySem.W.subIn K (.ref S) (.ref T) else none) = some false
  rw [ne, if_neg Bool.false_ne_true, if_pos e2]
  exact h4
theorem kit_refV {K : PySem.W.Frag} {S : Addr} (h4 : PySem.W.subIn K (.ref S) (.type "ValueError") = some true) : PySem.W.kitOne K (.ref S) (.type "ValueError") = some true := by
  have km : PySem.W.kitMeta "ValueError" = true := by decide +kernel
  show (if (Value.ref S == Value.type "ValueError") = true then some true else if PySem.W.kitMeta "ValueError" = true then PySem.W.subIn K (.ref S) (.type "ValueError") else none) = some true
  rw [if_neg (fun z => by cases z), if_pos km]
  exact h4
/-- self.f = v, the maker's promise -/
def spErr (C : Addr) (f : Str) : Sp := fun vs H Q _ => ∃ (a : Addr) (v : V), vs = [.ref a, v] ∧ H a = some (exo a C none) ∧ ∀ d, H d = none → d ≠ a → Q .non (upd (upd H d (exd d [(f, v)])) a (exo a C (some d)))
def tRaiseQ (W : WX) (t : L2.St → Hp → XK → Prop) : TS := fun _ σ H => t σ H fun cls d H' => W cls d σ H'
theorem ps_raiseQ {X : Cx} {W : WX} {e : Expr} {t : L2.St → Hp → XK → Prop} {pos : Pos} (hc : X.calm = true) (tk : Takes X W) (he : PMk X e t) : PS X (.Raise (some e) none pos) (tRaiseQ W t) := ps_raise hc tk he
section
variable {X : Cx} {x n : Str} {c : Value} {i : Nat} {body suite : List Stmt} {b₀ : Stmt} {np pos pos' : Pos}
def tTryA (K : PySem.W.Frag) (c : Value) (i : Nat) (tb : WX → TS) (ts : Addr → Value → Option Addr → TS) : TS := fun D σ H => tb (wAs K c i ts (fun _ _ _ _ => False) D) D σ H
def tTryO (K : PySem.W.Frag) (c : Value) (tb : WX → TS) (ts : Addr → Value → Option Addr → TS) : TS := fun D σ H => tb (wOnly K c ts (fun _ _ _ _ => False) D) D σ H
theorem ps_tryA (tb : WX → TS) (ts : Addr → Value → Option Addr → TS) (hs : X.stack = X.env :: X.outer) (hf : X.env.frame = some X.env.locals) (hN : X.N.Nodup) (hi : X.N[i]? = some n) (hln : X.env.kindOf n = some .local) (hc : Names X x c)
    (hb : ∀ (W : WX) (pn : List (Addr × Obj)) (xe : Value → Shared → Prop), Takes (X.tr pn xe) W → PSs (X.tr pn xe) body (tb W))
    (hsu : ∀ (a : Addr) (oe : Obj) (cls : Value) (d : Option Addr) (pn : List (Addr × Obj)), Zc cls d oe → (∃ vs, oe.data = .fields vs) → PSs (X.suite a ((a, oe) :: pn)) (b₀ :: suite) (ts a cls d)) :
    PS X (.Try body [.ExceptHandler (some (.Name x np)) (some n) (b₀ :: suite) pos'] [] [] pos) (tTryA X.K c i tb ts) := ps_try_as hs hf hN hi hln hc takes0 (fun W pn xe tk _ => hb W pn xe tk) hsu
theorem ps_tryO (tb : WX → TS) (ts : Addr → Value → Option Addr → TS) (hs : X.stack = X.env :: X.outer) (hf : X.env.frame = some X.env.locals) (hc : Names X x c)
    (hb : ∀ (W : WX) (pn : List (Addr × Obj)) (xe : Value → Shared → Prop), Takes (X.tr pn xe) W → PSs (X.tr pn xe) body (tb W))
    (hsu : ∀ (a : Addr) (oe : Obj) (cls : Value) (d : Option Addr) (pn : List (Addr × Obj)), Zc cls d oe → (∃ vs, oe.data = .fields vs) → PSs (X.suite a ((a, oe) :: pn)) (b₀ :: suite) (ts a cls d)) :
    PS X (.Try body [.ExceptHandler (some (.Name x np)) none (b₀ :: suite) pos'] [] [] pos) (tTryO X.K c tb ts) := ps_try_only hs hf hc takes0 (fun W pn xe tk _ => hb W pn xe tk) hsu
end
section
variable {σ : L2.St} {H : Hp} {K : PySem.W.Frag} {D : Ends} {Q : VK} {tb : WX → TS} {ts : Addr → Value → Option Addr → TS} {c : Value} {i : Nat} {W : WX} {ta : TA} {C a : Addr} {cls : Value} {d : Option Addr} {f : Str} {te : TE}
theorem rd_tryA (q : tb (wAs K c i ts (fun _ _ _ _ => False) D) D σ H) : tTryA K c i tb ts D σ H := q
theorem rd_tryO (q : tb (wOnly K c ts (fun _ _ _ _ => False) D) D σ H) : tTryO K c tb ts D σ H := q
theorem rd_mkO {sp : Sp} {Q : XK} (q : ta σ H fun vs H1 => vs.length ≤ 1000 ∧ ∀ a, H1 a = none → sp (.ref a :: (vs ++ [])) (upd H1 a (exo a C none)) (fun v H2 => v = .non ∧ ∃ (d : Addr) (fs : List (Str × V)), H2 a = some (exo a C (some d)) ∧ H2 d = some (exd d fs) ∧ H1 d = none ∧ Q (.ref C) (some d) (upd (del H2 a) d (.xd fs))) (fun _ _ _ => False)) : tMkO C sp [] ta σ H Q := q
theorem rd_xfQ (q : te σ H fun x H1 => x = .ref a ∧ cls = .ref C ∧ ∃ (dd : Addr) (fs : List (Str × V)) (v : V), d = some dd ∧ H1 dd = some (.xd fs) ∧ fs.lookup f = some v ∧ Q v H1) : tXf a cls d C f te σ H Q := q
theorem rd_callS {sp : Sp} {E : L2.St → XK} (q : ta σ H fun vs H1 => sp vs H1 Q (E σ)) : tCallS sp E ta σ H Q := q
theorem rd_raise {t : L2.St → Hp → XK → Prop} (q : t σ H fun cls d H' => W cls d σ H') : tRaiseQ W t D σ H := q
theorem mkErr {Q : XK} {v : V} {H1 : Hp} (q : ∀ H' d, Same H1 H' → H' d = some (.xd [(f, v)]) → Q (.ref C) (some d) H') : [v].length ≤ 1000 ∧ ∀ a, H1 a = none → spErr C f (.ref a :: ([v] ++ [])) (upd H1 a (exo a C none))
  (fun v H2 => v = .non ∧ ∃ (d : Addr) (fs : List (Str × V)), H2 a = some (exo a C (some d)) ∧ H2 d = some (exd d fs) ∧ H1 d = none ∧ Q (.ref C) (some d) (upd (del H2 a) d (.xd fs))) (fun _ _ _ => False) := by
  refine ⟨by simp, fun a na => ⟨a, v, rfl, upd_same, fun d nd ne => ⟨rfl, d, [(f, v)], upd_same, ?_, ?_, ?_⟩⟩⟩
  · rw [upd_ne ne, upd_same]
  · rw [upd_ne ne] at nd
    exact nd
  · rw [upd_ne ne] at nd
    refine q _ d (fun b o e => ?_) upd_same
    have n1 : b ≠ a := ne_of_none e na
    have n2 : b ≠ d := ne_of_none e nd
    rw [upd_ne n2, del_ne n1, upd_ne n1, upd_ne n2, upd_ne n1]
    exact e
theorem rd_xf {x : V} {dd : Addr} {v : V} (h : H dd = some (.xd [(f, v)])) (q : Q v H) : x = .ref a → cls = .ref C → d = some dd → (x = .ref a ∧ cls = .ref C ∧ ∃ (dd : Addr) (fs : List (Str × V)) (v : V), d = some dd ∧ H dd = some (.xd fs) ∧ fs.lookup f = some v ∧ Q v H) :=
  fun e1 e2 e3 => ⟨e1, e2, dd, _, v, e3, h, by simp [List.lookup], q⟩
end
end Rv
/-! texts that may be wrong: what is read of them, line by line -/
namespace Rv
open PySem PySem.Spec PyProof.Rows L2
theorem readW_ok {ws : List (List Nat)} {g : List Nat} {r : Ln} (h : readW ws g = some r) (gl : g.length ≤ 12) (gs : ∀ c ∈ g, Sign c) : RdOk r := by
  unfold readW at h
  split at h
  · rename_i a t
    by_cases k : a = wClear ∧ t ∈ NUMS
    · rw [if_pos k] at h
      have e := Option.some.inj h
      subst e
      obtain ⟨n, n12, rfl⟩ := of_nums k.2
      exact ⟨by show (0 : Int) ≤ ((NumText.digitsVal _ : Nat) : Int); omega, by show ((NumText.digitsVal _ : Nat) : Int) < 12; rw [TL.numL_val]; omega, .inl ⟨rfl, rfl⟩, gl, gs⟩
    · rw [if_neg k] at h
      cases h
  · rename_i a t x s
    by_cases k : x = wArr ∧ ((a = wCopy ∨ a = wMove) ∧ t ≠ s) ∧ (t ∈ NUMS ∧ s ∈ NUMS)
    · rw [if_pos k] at h
      have e := Option.some.inj h
      subst e
      obtain ⟨_, ⟨ka, ne⟩, k1, k2⟩ := k
      obtain ⟨n, n12, rfl⟩ := of_nums k1
      obtain ⟨m, m12, rfl⟩ := of_nums k2
      refine ⟨by show (0 : Int) ≤ ((NumText.digitsVal _ : Nat) : Int); omega, by show ((NumText.digitsVal _ : Nat) : Int) < 12; rw [TL.numL_val]; omega, .inr ⟨?_, ?_, ?_, ?_⟩, gl, gs⟩
      · rcases ka with z | z
        · exact .inl (by show txt a = _; rw [z]; rfl)
        · exact .inr (by show txt a = _; rw [z]; rfl)
      · show (0 : Int) ≤ ((NumText.digitsVal _ : Nat) : Int)
        omega
      · show ((NumText.digitsVal _ : Nat) : Int) < 12
        rw [TL.numL_val]
        omega
      · show ((NumText.digitsVal (TL.numL m) : Nat) : Int) ≠ ((NumText.digitsVal (TL.numL n) : Nat) : Int)
        rw [TL.numL_val, TL.numL_val]
        intro e
        have : m = n := by omega
        exact ne (by rw [this])
    · rw [if_neg k] at h
      cases h
  · cases h
theorem readL_ok {p : List Nat} {r : Ln} (h : readL p = some r) : RdOk r := by
  unfold readL at h
  generalize TL.spl [32] 0 [] p = ws at h
  have h : (if isIf ws = true then (if (1 ≤ (ws.getLastD []).length ∧ (ws.getLastD []).length ≤ 12) ∧ (ws.getLastD []).all isSg = true then readW (ws.take (ws.length - 2)) (ws.getLastD []) else none) else readW ws []) = some r := h
  by_cases k : isIf ws = true
  · rw [if_pos k] at h
    by_cases k2 : (1 ≤ (ws.getLastD []).length ∧ (ws.getLastD []).length ≤ 12) ∧ (ws.getLastD []).all isSg = true
    · rw [if_pos k2] at h
      exact readW_ok h k2.1.2 fun c hc => sg_iff.mp (List.all_eq_true.mp k2.2 c hc)
    · rw [if_neg k2] at h
      cases h
  · rw [if_neg k] at h
    exact readW_ok h (Nat.zero_le _) fun c hc => absurd hc List.not_mem_nil
/-- the lines rs are read ahead of the first wrong one -/
structure Front (body : List (List Nat)) (rs : List Ln) : Prop where
  le : rs.length ≤ body.length
  m60 : rs.length ≤ 60
  at_ : ∀ (i : Nat) (h : i < rs.length), readL (body[i]'(by omega)) = some rs[i]
/-- k: 0, or the number of the first wrong line -/
structure Read (ps : List (List Nat)) (k : Nat) (rs : List Ln) : Prop where
  fr : Front ps.dropLast rs
  end_ : (k = 0 ∧ rs.length = ps.dropLast.length ∧ ps.getLastD [] = []) ∨ (k = ps.length ∧ 0 < ps.length ∧ rs.length = ps.dropLast.length ∧ ps.getLastD [] ≠ []) ∨
    (k = rs.length + 1 ∧ ∃ h : rs.length < ps.dropLast.length, readL ps.dropLast[rs.length] = none ∨ rs.length = 60)
theorem Front.nil {body : List (List Nat)} : Front body [] := ⟨Nat.zero_le _, Nat.zero_le _, fun i h => absurd h (Nat.not_lt_zero _)⟩
theorem Front.more {body : List (List Nat)} {rs : List Ln} {r : Ln} (f : Front body rs) (h : rs.length < body.length) (e : readL body[rs.length] = some r) (n : rs.length ≠ 60) : Front body (rs ++ [r]) := by
  have m := f.m60
  refine ⟨by rw [List.length_append]; exact h, by rw [List.length_append]; simp; omega, fun i hi => ?_⟩
  rw [List.length_append] at hi
  simp at hi
  by_cases k : i < rs.length
  · rw [List.getElem_append_left k]
    exact f.at_ i k
  · have : i = rs.length := by omega
    subst this
    rw [List.getElem_append_right (Nat.le_refl _)]
    simp only [Nat.sub_self, List.getElem_cons_zero]
    exact e
theorem Front.ok {body : List (List Nat)} {rs : List Ln} (f : Front body rs) : ∀ r ∈ rs, RdOk r := fun r hr => by
  obtain ⟨i, hi, rfl⟩ := List.mem_iff_getElem.mp hr
  exact readL_ok (f.at_ i hi)
theorem Read.le_of {ps : List (List Nat)} {k k' : Nat} {rs rs' : List Ln} (h : Read ps k rs) (h' : Read ps k' rs') : ¬ rs.length < rs'.length := fun lt => by
  have a := h'.fr.at_ rs.length lt
  have b := h'.fr.le
  have c := h'.fr.m60
  rcases h.end_ with ⟨_, e, _⟩ | ⟨_, _, e, _⟩ | ⟨_, hl, e | e⟩
  · omega
  · omega
  · rw [e] at a
    cases a
  · omega
theorem Read.same {ps : List (List Nat)} {k k' : Nat} {rs rs' : List Ln} (h : Read ps k rs) (h' : Read ps k' rs') : k = k' ∧ rs = rs' := by
  have l1 := h.le_of h'
  have l2 := h'.le_of h
  have el : rs.length = rs'.length := by omega
  have er : rs = rs' := by
    refine List.ext_getElem el fun i h1 h2 => ?_
    have a := h.fr.at_ i h1
    have b := h'.fr.at_ i h2
    rw [a] at b
    exact Option.some.inj b
  subst er
  refine ⟨?_, rfl⟩
  rcases h.end_ with ⟨e1, e2, e3⟩ | ⟨e1, e0, e2, e3⟩ | ⟨e1, e2, _⟩ <;> rcases h'.end_ with ⟨f1, f2, f3⟩ | ⟨f1, f0, f2, f3⟩ | ⟨f1, f2, _⟩
  · omega
  · exact absurd e3 f3
  · omega
  · exact absurd f3 e3
  · omega
  · omega
  · omega
  · omega
  · omega
/-- a line is wrong: its number is told -/
theorem Read.wrong {ps : List (List Nat)} {rs : List Ln} (f : Front ps.dropLast rs) (h : rs.length < ps.dropLast.length) (e : readL ps.dropLast[rs.length] = none ∨ rs.length = 60) : Read ps (rs.length + 1) rs := ⟨f, .inr (.inr ⟨rfl, h, e⟩)⟩
/-! rules of their own names, for texts that are bent -/
def rMulS : R2 := fun x y H Q => ∃ (c n : Nat), x = .str (one c) ∧ y = .int n ∧ 1 ≤ n ∧ n ≤ 10000 ∧ Q (.str (txt (List.replicate n c))) H
theorem op_mulS {X : Cx} : OpR X (binaryOp .Mult) rMulS := by
  intro pins s σ H x y v u Q I rx ry h
  obtain ⟨c, n, rfl, rfl, n1, n2, q⟩ := h
  obtain ⟨t, rfl⟩ := rx
  obtain ⟨t', rfl⟩ := ry
  have l1 : (one c).length = 1 := rfl
  have ok : MulOk (one c) (n : Int) := by
    refine ⟨?_, fun _ _ => ?_, fun _ _ => ?_⟩
    · rw [Bool.or_eq_false_iff]
      exact ⟨decide_eq_false (by omega), decide_eq_false (by omega)⟩
    · rw [l1]
      have : (1 : Int) ≤ (2 ^ 63 - 1) / (n : Int) := by
        rw [Int.le_ediv_iff_mul_le (by omega)]
        omega
      omega
    · rw [l1, Int.toNat_natCast, Nat.one_mul]
      have : n ≤ sizeLine := Nat.le_trans n2 (by decide)
      exact decide_eq_false (by omega)
  have e : Txt.mul (one c) (n : Int) = txt (List.replicate n c) := by
    unfold Txt.mul
    rw [if_neg (by omega)]
    by_cases k : n = 1
    · subst k
      rfl
    · have f : ((n : Int) == 1 || (one c).length == 0) = false := by
        rw [Bool.or_eq_false_iff]
        exact ⟨beq_eq_false_iff_ne.mpr (by omega), rfl⟩
      rw [f, if_neg Bool.false_ne_true, Int.toNat_natCast]
      refine TL.ext_tl ?_
      show ((List.replicate n (one c).cps).foldl (· ++ ·) #[]).toList = List.replicate n c
      rw [fold_reps]
      rfl
  refine SB.mul ok fun t2 k => ?_
  rw [e]
  exact ⟨.str (txt (List.replicate n c)), H, I.tok _, ⟨_, rfl⟩, q⟩
def rUpQ : V → List V → Hp → VK → Prop := fun x xs H Q => ∃ a, x = .str a ∧ xs = [] ∧ a.length ≤ 5592405 ∧ Q (.str (Txt.upper a)) H
theorem pe_upQ {X : Cx} {o : Expr} {to : TE} {apos pos : Pos} (ho : PE X o to) (hbase : attributeBase o "upper" X.env (eval o X.env) = eval o X.env := by rfl) (hline : (apos.endLine == pos.line) = true := by rfl) :
    PE X (.Call (.Attribute o "upper" apos) [] [] pos) (tM0 rUpQ to) := pe_upper ho hbase hline
def rNotSg : R2 := fun x y H Q => ∃ (c : Nat) (z : Str), x = .str ⟨#[c]⟩ ∧ y = .str z ∧ Q (.bl (!decide (c ∈ z.cps.toList))) H
theorem op_notSgQ {X : Cx} : OpR X (compareOp .NotIn) rNotSg := op_notIn_sign
section
variable {σ : L2.St} {H : Hp} {K : PySem.W.Frag} {Q : VK} {te to : TE} {a b : List Nat} {p p2 : Addr} {xs ys : List V}
theorem rd_mulS {c n : Nat} (n1 : 1 ≤ n) (n2 : n ≤ 10000) (q : Q (.str (txt (List.replicate n c))) H) : rMulS (.str (one c)) (.int n) H Q := ⟨c, n, rfl, rfl, n1, n2, q⟩
theorem rd_M0 {r : V → List V → Hp → VK → Prop} (q : to σ H fun x H1 => (∃ a, x = .str a) ∧ r x [] H1 Q) : tM0 r to σ H Q := q
theorem up_small {a : List Nat} (h : ∀ c ∈ a, c < 128) : ∀ c ∈ a.map PyProof.Rows.up1, c < 128 := fun c hc => by
  obtain ⟨d, hd, rfl⟩ := List.mem_map.mp hc
  have := h d hd
  unfold PyProof.Rows.up1
  split <;> omega
theorem rd_up (h : ∀ c ∈ a, c < 128) (hl : a.length ≤ 100000) (q : Q (.str (txt (a.map PyProof.Rows.up1))) H) : rUpQ (.str (txt a)) [] H Q := by
  refine ⟨_, rfl, rfl, by rw [txt_len]; omega, ?_⟩
  have e : Txt.upper (txt a) = txt (a.map PyProof.Rows.up1) := SX.upper_S (by rw [List.all_eq_true]; exact fun c hc => decide_eq_true (h c hc))
  rw [e]
  exact q
theorem rd_notSg {c : Nat} {z : Str} (q : Q (.bl (!decide (c ∈ z.cps.toList))) H) : rNotSg (.str ⟨#[c]⟩) (.str z) H Q := ⟨c, z, rfl, rfl, q⟩
theorem rd_slS {lo hi : Option Int} (h : a.length ≤ 1000000) (q : Q (.str (cutS (txt a) lo hi)) H) : rSlS (.str (txt a)) lo hi H Q := ⟨_, rfl, by rw [txt_len]; exact big_line h, q⟩
theorem cutS_to {k : Nat} : cutS (txt a) none (some (k : Int)) = txt (a.take k) := by
  unfold cutS
  rw [HT.sIx_none, HT.sIx_nat, txt_len, List.drop_zero, Nat.sub_zero]
  show txt (a.take (min k a.length)) = _
  by_cases h : k ≤ a.length
  · rw [Nat.min_eq_left h]
  · rw [Nat.min_eq_right (by omega), List.take_of_length_le (Nat.le_refl _), List.take_of_length_le (by omega)]
theorem cutS_from {k : Nat} : cutS (txt a) (some (k : Int)) none = txt (a.drop k) := by
  unfold cutS
  rw [HT.sIx_none, HT.sIx_nat, txt_len]
  show txt ((a.drop (min k a.length)).take (a.length - min k a.length)) = _
  rw [List.take_of_length_le (by rw [List.length_drop]; exact Nat.le_refl _)]
  by_cases h : k ≤ a.length
  · rw [Nat.min_eq_left h]
  · rw [Nat.min_eq_right (by omega), List.drop_length, List.drop_eq_nil_of_le (by omega)]
theorem cutS_m1 : cutS (txt a) none (some (-1)) = txt a.dropLast := by
  unfold cutS
  have e2 : HT.sIx (txt a).length (txt a).length (some (-1)) = a.length - 1 := by
    unfold HT.sIx
    rw [txt_len]
    show (if (-1 : Int) < 0 then ((-1 : Int) + (a.length : Int)).toNat else _) = _
    rw [if_pos (by decide)]
    omega
  rw [e2, HT.sIx_none, List.drop_zero, Nat.sub_zero, List.dropLast_eq_take]
  rfl
theorem rd_cat (h : H p = some (.lst xs)) (h2 : H p2 = some (.lst ys)) (hl : xs.length + ys.length ≤ 100000) (q : ∀ l, H l = none → Q (.ref l) (upd H l (.lst (xs ++ ys)))) : rCat (.ref p) (.ref p2) H Q := ⟨p, p2, xs, ys, rfl, rfl, h, h2, Nat.le_trans hl (by decide), q⟩
end
theorem join_le (s : Nat) : ∀ l : List (List Nat), (TL.joinL [s] l).length ≤ l.flatten.length + l.length
  | [] => Nat.zero_le _
  | [p] => by
    show p.length ≤ _
    rw [List.flatten_cons, List.length_append]
    omega
  | p :: q :: r => by
    have ih := join_le s (q :: r)
    show (p ++ ([s] ++ TL.joinL [s] (q :: r))).length ≤ _
    rw [List.length_append, List.length_append, List.flatten_cons, List.length_append]
    simp only [List.length_cons, List.length_nil] at *
    omega
theorem join_mem {s x : Nat} : ∀ {l : List (List Nat)}, x ∈ TL.joinL [s] l → x = s ∨ ∃ w ∈ l, x ∈ w
  | [], h => absurd h List.not_mem_nil
  | [p], h => .inr ⟨p, List.mem_singleton.mpr rfl, h⟩
  | p :: q :: r, h => by
    have h : x ∈ p ++ ([s] ++ TL.joinL [s] (q :: r)) := h
    rcases List.mem_append.mp h with k | k
    · exact .inr ⟨p, List.mem_cons_self .., k⟩
    · rcases List.mem_append.mp k with k | k
      · exact .inl (List.mem_singleton.mp k)
      · rcases join_mem k with e | ⟨w, hw, hx⟩
        · exact .inl e
        · exact .inr ⟨w, List.mem_cons_of_mem _ hw, hx⟩
theorem rd_joinS {K : PySem.W.Frag} {H : Hp} {Q : VK} {p : Addr} {s : Nat} {ws : List (List Nat)} (h : H p = some (.lst (ws.map fun w => V.str (txt w)))) (hl : ws.flatten.length + ws.length ≤ 1000000) (q : Q (.str (txt (TL.joinL [s] ws))) H) : rJoinT K (.str (one s)) [.ref p] H Q := by
  refine ⟨_, p, ws.map txt, rfl, rfl, .inl (SqL.of (by rw [List.map_map]; exact h)), ?_, ?_⟩
  · rw [sum_flat, List.length_map]
    show _ + ws.length * 1 ≤ _
    omega
  · have e : Txt.join (one s) (ws.map txt) = txt (TL.joinL [s] ws) := SX.join_S [s] ws
    rw [e]
    exact q
/-- words that are bounded: how many, how long in all, plain signs -/
structure Wb (n t : Nat) (ws : List (List Nat)) : Prop where
  n : ws.length ≤ n
  t : ws.flatten.length ≤ t
  c : ∀ w ∈ ws, ∀ c ∈ w, c < 128
theorem Wb.app {n t m u : Nat} {a b : List (List Nat)} (h : Wb n t a) (k : Wb m u b) : Wb (n + m) (t + u) (a ++ b) :=
  ⟨by rw [List.length_append]; have := h.n; have := k.n; omega, by rw [List.flatten_append, List.length_append]; have := h.t; have := k.t; omega, fun w hw => by
    rcases List.mem_append.mp hw with z | z
    · exact h.c w z
    · exact k.c w z⟩
theorem Wb.take {n t : Nat} {a : List (List Nat)} (h : Wb n t a) (k : Nat) : Wb n t (a.take k) :=
  ⟨by rw [List.length_take]; have := h.n; omega, by
    have e : a.flatten.length = (a.take k).flatten.length + (a.drop k).flatten.length := by rw [← List.length_append, ← List.flatten_append, List.take_append_drop]
    have := h.t; omega, fun w hw => h.c w (List.mem_of_mem_take hw)⟩
theorem Wb.drop {n t : Nat} {a : List (List Nat)} (h : Wb n t a) (k : Nat) : Wb n t (a.drop k) :=
  ⟨by rw [List.length_drop]; have := h.n; omega, by
    have e : a.flatten.length = (a.take k).flatten.length + (a.drop k).flatten.length := by rw [← List.length_append, ← List.flatten_append, List.take_append_drop]
    have := h.t; omega, fun w hw => h.c w (List.mem_of_mem_drop hw)⟩
theorem Wb.mono {n t m u : Nat} {a : List (List Nat)} (h : Wb n t a) (hn : n ≤ m) (ht : t ≤ u) : Wb m u a := ⟨Nat.le_trans h.n hn, Nat.le_trans h.t ht, h.c⟩
theorem Wb.one {t : Nat} {w : List Nat} (h : w.length ≤ t) (hc : ∀ c ∈ w, c < 128) : Wb 1 t [w] := ⟨Nat.le_refl _, by rw [List.flatten_cons, List.flatten_nil, List.append_nil]; exact h, fun x hx => by rw [List.mem_singleton.mp hx]; exact hc⟩
theorem Wb.len {n t : Nat} {a : List (List Nat)} (h : Wb n t a) : ∀ w ∈ a, w.length ≤ t := fun w hw => by
  have : w.length ≤ a.flatten.length := by
    obtain ⟨i, hi, rfl⟩ := List.mem_iff_getElem.mp hw
    clear h hw
    induction a generalizing i with
    | nil => exact absurd hi (Nat.not_lt_zero _)
    | cons x r ih =>
      rw [List.flatten_cons, List.length_append]
      cases i with
      | zero => show x.length ≤ _; omega
      | succ i => have := ih i (by simpa using hi); simp only [List.getElem_cons_succ]; omega
  exact Nat.le_trans this h.t
/-- a split text's words -/
theorem spl_flat (s : Nat) : ∀ (l acc : List Nat), (TL.spl [s] 0 acc l).flatten.length ≤ acc.length + l.length ∧ (TL.spl [s] 0 acc l).length ≤ l.length + 1
  | [], acc => by
    rw [TL.spl_nil]
    simp
  | c :: r, acc => by
    have e : TL.spl [s] 0 acc (c :: r) = (if TL.pre [s] (c :: r) = true then acc :: TL.spl [s] 0 [] r else TL.spl [s] 0 (acc ++ [c]) r) := rfl
    rw [e]
    by_cases h : TL.pre [s] (c :: r) = true
    · rw [if_pos h]
      obtain ⟨h1, h2⟩ := spl_flat s r []
      rw [List.flatten_cons, List.length_append]
      simp only [List.length_cons, List.length_nil] at *
      omega
    · rw [if_neg h]
      obtain ⟨h1, h2⟩ := spl_flat s r (acc ++ [c])
      rw [List.length_append] at h1
      simp only [List.length_cons, List.length_nil] at *
      omega
theorem spl_wb {s : Nat} {l : List Nat} (hc : ∀ c ∈ l, c < 128) : Wb (l.length + 1) l.length (TL.spl [s] 0 [] l) := by
  obtain ⟨h1, h2⟩ := spl_flat s l []
  exact ⟨h2, by simpa using h1, fun w hw c h => hc c (spl_mem hw h)⟩
theorem spl_free (s : Nat) : ∀ (l acc : List Nat), s ∉ acc → ∀ w ∈ TL.spl [s] 0 acc l, s ∉ w
  | [], acc, h, w, hw => by
    rw [TL.spl_nil] at hw
    rw [List.mem_singleton.mp hw]
    exact h
  | c :: r, acc, h, w, hw => by
    have e : TL.spl [s] 0 acc (c :: r) = (if TL.pre [s] (c :: r) = true then acc :: TL.spl [s] 0 [] r else TL.spl [s] 0 (acc ++ [c]) r) := rfl
    rw [e] at hw
    by_cases k : TL.pre [s] (c :: r) = true
    · rw [if_pos k] at hw
      rcases List.mem_cons.mp hw with z | z
      · rw [z]; exact h
      · exact spl_free s r [] List.not_mem_nil w z
    · rw [if_neg k] at hw
      refine spl_free s r (acc ++ [c]) (fun m => ?_) w hw
      rcases List.mem_append.mp m with z | z
      · exact h z
      · have z2 : s = c := List.mem_singleton.mp z
        refine k ?_
        rw [← z2]
        exact TL.pre_self [s] r
/-- the lines ahead of the first wrong one, as a text of their own -/
theorem Read.front {cs : List Nat} {k : Nat} {rs : List Ln} (h : Read (TL.spl [10] 0 [] cs) k rs) (k0 : k ≠ 0) : k = rs.length + 1 ∧ Read (TL.spl [10] 0 [] (((TL.spl [10] 0 [] cs).take rs.length).map (· ++ [10])).flatten) 0 rs := by
  have hf := spl_free 10 cs [] List.not_mem_nil
  have le := h.fr.le
  have hk : k = rs.length + 1 := by
    rcases h.end_ with ⟨e, _⟩ | ⟨e, e0, e2, _⟩ | ⟨e, _⟩
    · exact absurd e k0
    · rw [List.length_dropLast] at e2
      omega
    · exact e
  refine ⟨hk, ?_⟩
  have fa := h.fr.at_
  have m60 := h.fr.m60
  generalize TL.spl [10] 0 [] cs = ws at *
  have dl : ws.dropLast.length = ws.length - 1 := List.length_dropLast
  have go : ∀ l : List (List Nat), (l.map (· ++ [10])).flatten = TL.joinL [10] (l ++ [[]]) := by
    intro l
    induction l with
    | nil => rfl
    | cons x r ih =>
      rw [List.map_cons, List.flatten_cons, ih]
      cases r with
      | nil =>
        show (x ++ [10]) ++ [] = x ++ ([10] ++ [])
        simp
      | cons y z =>
        show (x ++ [10]) ++ TL.joinL [10] ((y :: z) ++ [[]]) = x ++ ([10] ++ TL.joinL [10] ((y :: z) ++ [[]]))
        rw [List.append_assoc]
  have es : TL.spl [10] 0 [] ((ws.take rs.length).map (· ++ [10])).flatten = ws.take rs.length ++ [[]] := by
    rw [go]
    refine TL.spl_join (by simp) fun p hp => ?_
    rcases List.mem_append.mp hp with z | z
    · exact hf p (List.mem_of_mem_take z)
    · rw [List.mem_singleton.mp z]
      exact List.not_mem_nil
  rw [es]
  have ed : (ws.take rs.length ++ [[]]).dropLast = ws.take rs.length := List.dropLast_concat
  have el : (ws.take rs.length).length = rs.length := by rw [List.length_take]; omega
  refine ⟨⟨?_, m60, fun i hi => ?_⟩, .inl ⟨rfl, by rw [ed, el], by simp⟩⟩
  · rw [ed, el]
    exact Nat.le_refl _
  · have a := fa i hi
    have e1 : (ws.take rs.length ++ [[]]).dropLast[i]'(by rw [ed, el]; exact hi) = ws.dropLast[i]'(by omega) := by
      have e2 : (ws.take rs.length ++ [[]]).dropLast[i]'(by rw [ed, el]; exact hi) = (ws.take rs.length)[i]'(by rw [el]; exact hi) := by congr 1
      rw [e2, List.getElem_take, List.getElem_dropLast]
    rw [e1]
    exact a
def blockOf (w : List Nat) : Int := if w ∈ NUMS then ((NumText.digitsVal w : Nat) : Int) else -1
theorem block_num {k : Nat} (h : k < 12) : blockOf (TL.numL k) = (k : Int) := by
  unfold blockOf
  rw [if_pos (num_in h), TL.numL_val]
theorem block_neg {w : List Nat} (h : w ∉ NUMS) : blockOf w = -1 := if_neg h
theorem block_nonneg {w : List Nat} : (0 : Int) ≤ blockOf w ↔ w ∈ NUMS := by
  unfold blockOf
  by_cases k : w ∈ NUMS
  · rw [if_pos k]
    exact ⟨fun _ => k, fun _ => by omega⟩
  · rw [if_neg k]
    exact ⟨fun z => absurd z (by decide), fun z => absurd z k⟩
theorem rd_inTx {K : PySem.W.Frag} {H : Hp} {Q : VK} {p : Addr} {t : List Nat} {l : List (List Nat)} (h : H p = some (.lst (l.map fun w => V.str (txt w)))) (q : Q (.bl (decide (t ∈ l))) H) : rIn K false (.str (txt t)) (.ref p) H Q := by
  refine ⟨p, _, rfl, .inl (SqL.of h), rfl, flat_txts _, ?_⟩
  rw [in_txts]
  exact q
theorem rd_notInTx {K : PySem.W.Frag} {H : Hp} {Q : VK} {p : Addr} {t : List Nat} {l : List (List Nat)} (h : H p = some (.lst (l.map fun w => V.str (txt w)))) (q : Q (.bl (!decide (t ∈ l))) H) : rIn K true (.str (txt t)) (.ref p) H Q := by
  refine ⟨p, _, rfl, .inl (SqL.of h), rfl, flat_txts _, ?_⟩
  rw [in_txts]
  exact q
theorem rd_indexNum {K : PySem.W.Frag} {H : Hp} {Q : VK} {p : Addr} {k : Nat} (hk : k < 12) (h : H p = some (.lst (NUMS.map fun w => V.str (txt w)))) (q : Q (.int (k : Nat)) H) : rIndex K (.ref p) [.str (txt (TL.numL k))] H Q := by
  have hl : NUMS.length = 12 := by simp [NUMS]
  have g : ∀ m, m < 12 → (NUMS.map fun w => V.str (txt w))[m]? = some (.str (txt (TL.numL m))) := fun m hm => by
    unfold NUMS
    rw [List.getElem?_map, List.getElem?_map, List.getElem?_eq_getElem (by simpa using hm)]
    simp
  refine ⟨p, _, _, k, _, rfl, rfl, SqL.of h, rfl, flat_txts _, g k hk, ?_, fun m z' hm e => ?_, q⟩
  · show (txt (TL.numL k) == txt (TL.numL k)) = true
    exact beq_self_eq_true _
  · rw [g m (by omega)] at e
    cases e
    show (txt (TL.numL m) == txt (TL.numL k)) = false
    have : (txt (TL.numL m) == txt (TL.numL k)) = decide (TL.numL m = TL.numL k) := SX.S_beq_eq
    rw [this]
    exact decide_eq_false fun e => by have := TL.numL_inj e; omega
theorem atI_m2 {α : Type} (xs : List α) (u v : α) : atI (xs ++ [u, v]) (-2) = some u := by
  unfold atI ixN
  have hl : (xs ++ [u, v]).length = xs.length + 2 := by simp
  rw [hl, if_neg (by decide), if_pos (by omega)]
  have e : ((-2 : Int) + ((xs.length + 2 : Nat) : Int)).toNat = xs.length := by omega
  show (xs ++ [u, v])[((-2 : Int) + ((xs.length + 2 : Nat) : Int)).toNat]? = _
  rw [e, List.getElem?_append_right (Nat.le_refl _), Nat.sub_self]
  rfl
/-- the reading with and without a guard, for few words -/
theorem readL_few {row : List Nat} (h : (TL.spl [32] 0 [] row).length < 4) : readL row = readW (TL.spl [32] 0 [] row) [] := by
  unfold readL
  generalize TL.spl [32] 0 [] row = ws at *
  show (if isIf ws = true then (if (1 ≤ (ws.getLastD []).length ∧ (ws.getLastD []).length ≤ 12) ∧ (ws.getLastD []).all isSg = true then readW (ws.take (ws.length - 2)) (ws.getLastD []) else none) else readW ws []) = _
  by_cases k : isIf ws = true
  · rw [if_pos k]
    obtain ⟨k1, k2⟩ : 2 ≤ ws.length ∧ ws.getD (ws.length - 2) [] = wIf := of_decide_eq_true k
    match ws, h, k1, k2 with
    | [a, b], _, _, k2 =>
      have k2 : a = wIf := k2
      have e1 : readW [a, b] [] = none := if_neg fun z => by rw [k2] at z; exact absurd z.1 (by decide)
      rw [e1]
      split <;> rfl
    | [a, b, c], _, _, _ =>
      show (if _ then none else none) = none
      split <;> rfl
    | [a], _, k1, _ => exact absurd (show 2 ≤ 1 from k1) (by decide)
    | [], _, k1, _ => exact absurd (show 2 ≤ 0 from k1) (by decide)
    | _ :: _ :: _ :: _ :: _, h, _, _ => exact absurd h (by simp)
  · rw [if_neg k]
end Rv
/-! boxes of draws of any make; pairs; calls with defaults, with a star; several named clauses -/
namespace Rv
open PySem PySem.Spec PyProof.Rows L2
/-- a box of draws: where it is, what of it changes, what it rests on -/
structure Box where
  b : Addr
  m : List Addr
  fp : List Addr
  I : Hp → Prop
  sub : ∀ a ∈ m, a ∈ fp
  live : ∀ H, I H → ∀ a ∈ fp, ∃ xs, H a = some (.lst xs)
  frame : ∀ H H', I H → (∀ a ∈ fp, H' a = H a) → I H'
structure Wg (B : Box) (H0 H : Hp) : Prop where
  keep : ∀ a o, a ∉ B.m → H0 a = some o → H a = some o
  i0 : B.I H0
  i1 : B.I H
section
variable {B : Box} {p a : Addr} {H0 H H1 H2 : Hp} {o : HO} {xs : List V}
theorem Box.ne (i : B.I H) (np : H p = none) : p ∉ B.fp := fun h => by
  obtain ⟨ys, e⟩ := B.live _ i p h
  rw [np] at e
  cases e
theorem Box.nem (i : B.I H) (np : H p = none) : p ∉ B.m := fun h => B.ne i np (B.sub _ h)
theorem Box.tupm (i : B.I H) (h : H p = some (.tup xs)) : p ∉ B.m := fun k => by
  obtain ⟨ys, e⟩ := B.live _ i p (B.sub _ k)
  rw [h] at e
  cases e
theorem Box.upd (i : B.I H) (n : p ∉ B.fp) : B.I (upd H p o) := B.frame _ _ i fun a ha => upd_ne fun e => n (e ▸ ha)
theorem Box.same (i : B.I H) (S : Same H H1) : B.I H1 := B.frame _ _ i fun a ha => by
  obtain ⟨ys, e⟩ := B.live _ i a ha
  rw [e]
  exact S _ _ e
theorem Wg.refl (i : B.I H) : Wg B H H := ⟨fun _ _ _ h => h, i, i⟩
theorem Wg.trans (w : Wg B H0 H1) (w2 : Wg B H1 H2) : Wg B H0 H2 := ⟨fun a o n h => w2.keep a o n (w.keep a o n h), w.i0, w2.i1⟩
theorem Wg.ofSame (i : B.I H) (S : Same H H1) : Wg B H H1 := ⟨fun a o _ h => S a o h, i, B.same i S⟩
theorem Wg.same (w : Wg B H0 H1) (S : Same H1 H2) : Wg B H0 H2 := w.trans (.ofSame w.i1 S)
theorem Wg.free (w : Wg B H0 H) (np : H p = none) : H0 p = none := by
  cases e : H0 p with
  | none => rfl
  | some o =>
    have n := B.nem w.i1 np
    rw [w.keep p o n e] at np
    cases np
theorem Wg.tup (w : Wg B H0 H) (h : H0 a = some (.tup xs)) : H a = some (.tup xs) := w.keep a _ (B.tupm w.i0 h) h
theorem Wg.lst (w : Wg B H0 H) (n : a ∉ B.m) (h : H0 a = some o) : H a = some o := w.keep a o n h
theorem Wg.new (w : Wg B H0 H) (np : H p = none) : Wg B H0 (upd H p o) :=
  ⟨fun a u n h => by have q := w.keep a u n h; rw [upd_ne (ne_of_none q np)]; exact q, w.i0, B.upd w.i1 (B.ne w.i1 np)⟩
theorem Wg.mut (w : Wg B H0 H) (np : H0 p = none) : Wg B H0 (upd H p o) :=
  ⟨fun a u n h => by rw [upd_ne (ne_of_none h np)]; exact w.keep a u n h, w.i0, B.upd w.i1 (B.ne w.i0 np)⟩
/-- a list of the def's own is changed -/
theorem Wg.chg (w : Wg B H0 H) (np : H0 p = none) (w2 : Wg B H H1) : Wg B H0 (upd H1 p o) := (w.trans w2).mut np
theorem TupsAt.wg {ps : List Addr} {vss : List (List V)} (w : Wg B H H1) (h : TupsAt H ps vss) : TupsAt H1 ps vss := ⟨h.1, fun i vs e => by
  obtain ⟨p, e1, e2⟩ := h.2 i vs e
  exact ⟨p, e1, w.tup e2⟩⟩
end
/-- the tuples stay -/
def Kt (H H' : Hp) : Prop := ∀ a xs, H a = some (.tup xs) → H' a = some (.tup xs)
section
variable {B : Box} {p a : Addr} {H0 H H1 H2 : Hp} {o : HO} {xs : List V}
theorem Kt.refl : Kt H H := fun _ _ h => h
theorem Kt.trans (k : Kt H H1) (k2 : Kt H1 H2) : Kt H H2 := fun a xs h => k2 a xs (k a xs h)
theorem Kt.same (S : Same H H1) : Kt H H1 := fun a xs h => S _ _ h
theorem Kt.wg (w : Wg B H H1) : Kt H H1 := fun a xs h => w.tup h
theorem Kt.mut (h : H p = some (.lst xs)) : Kt H (upd H p o) := fun a ys e => by
  rw [upd_ne (ne_of e h (by intro z; cases z))]
  exact e
theorem Kt.new (h : H p = none) : Kt H (upd H p o) := fun a ys e => by
  rw [upd_ne (ne_of_none e h)]
  exact e
theorem TupsAt.kt {ps : List Addr} {vss : List (List V)} (w : Kt H H1) (h : TupsAt H ps vss) : TupsAt H1 ps vss := ⟨h.1, fun i vs e => by
  obtain ⟨p, e1, e2⟩ := h.2 i vs e
  exact ⟨p, e1, w _ _ e2⟩⟩
end
/-- a comprehension within a def that draws; Pv rests on tuples alone -/
theorem lc_wg {B : Box} {J : It} {n : Nat} {G : Hp → Prop} {Y : Nat → Hp → V → Hp → Prop} (w : Walk J n G Y) {g : TG} {tt : TT} {te : TE} {vs : List Nat} {σ : L2.St} {H0 : Hp} {Q : VK} (i0 : B.I H0) (Pv : Nat → List V → Hp → Prop) (p0 : ∀ H, Kt H0 H → Pv 0 [] H)
    (st : ∀ i acc H H', Kt H H' → Pv i acc H → Pv i acc H')
    (sm : ∀ i acc H, Pv i acc H → acc.length < 1000) (hG : ∀ H, Wg B H0 H → G H)
    (hs : ∀ i x H H' acc (Qc : VK) (R : Hp → Prop), i < n → Wg B H0 H → Pv i acc H → Y i H x H' → (∀ y H4, Wg B H H4 → Pv (i + 1) (acc ++ [y]) H4 → Qc y H4) → (∀ H4, Wg B H H4 → Pv (i + 1) acc H4 → R H4) →
      g x (wipe σ vs) H' fun σ2 H2 => wipe σ2 vs = wipe σ vs ∧ tt σ2 H2 fun b H3 => if b = true then te σ2 H3 Qc else R H3)
    (hd : ∀ H D acc, Wg B H0 H → H0 D = none → H D = some (.lst acc) → Pv n acc H → Q (.ref D) H) : Lc J g tt te vs σ H0 Q := fun D nD => by
  have nm := B.nem i0 nD
  exact lc_it w (Qd := fun H => Q (.ref D) H) (fun i H => Wg B H0 H ∧ ∃ acc, H D = some (.lst acc) ∧ Pv i acc H) ⟨(Wg.refl i0).mut nD, [], upd_same, p0 _ (Kt.new nD)⟩ (fun i H _ p => hG H p.1)
    (fun i x H H' hi p y => by
      obtain ⟨w0, acc, hD, pa⟩ := p
      refine hs i x H H' acc _ _ hi w0 pa y (fun z H4 w4 pz => ?_) (fun H4 w4 pz => ⟨w0.trans w4, acc, w4.lst nm hD, pz⟩)
      have hD4 := w4.lst nm hD
      exact ⟨acc, hD4, small1000 (by have := sm i acc H pa; omega), (w0.trans w4).mut nD, _, upd_same, st _ _ _ _ (Kt.mut hD4) pz⟩)
    (fun H p => by
      obtain ⟨w0, acc, hD, pa⟩ := p
      exact hd H D acc w0 nD hD pa)
/-! pairs -/
def pv (p : Int × Int) : List V := [.int p.1, .int p.2]
structure PairOk (n : Nat) (p : Int × Int) : Prop where
  t0 : 0 ≤ p.1
  t1 : p.1 < n
  s0 : 0 ≤ p.2
  s1 : p.2 < n
  ne : p.1 ≠ p.2
def pvs (ps : List (Int × Int)) : List (List V) := ps.map pv
theorem pvs_len (ps : List (Int × Int)) : (pvs ps).length = ps.length := by simp [pvs]
theorem pvs_app (a b : List (Int × Int)) : pvs (a ++ b) = pvs a ++ pvs b := List.map_append
/-- a log: a list of pairs -/
structure LogAt (H : Hp) (D : Addr) (n : Nat) (ps : List (Int × Int)) : Prop where
  at_ : ∃ as : List Addr, H D = some (.lst (as.map V.ref)) ∧ TupsAt H as (pvs ps)
  ok : ∀ p ∈ ps, PairOk n p
theorem mod_pair {t d n : Int} (t0 : 0 ≤ t) (t1 : t < n) (d0 : 0 ≤ d) (d1 : d < n - 1) : 0 ≤ (t + 1 + d).fmod n ∧ (t + 1 + d).fmod n < n ∧ t ≠ (t + 1 + d).fmod n := by
  have hn : 0 < n := by omega
  rw [Int.fmod_eq_emod_of_nonneg _ (by omega)]
  by_cases k : t + 1 + d < n
  · rw [Int.emod_eq_of_lt (by omega) k]
    omega
  · have e : (t + 1 + d) % n = t + 1 + d - n := by
      have e1 : t + 1 + d = (t + 1 + d - n) + n := by omega
      rw [e1, Int.add_emod_right, Int.emod_eq_of_lt (by omega) (by omega)]
      omega
    rw [e]
    omega
/-! calls -/
/-- a def with one default, None -/
structure DefD (K : PySem.W.Frag) (mg : Str → Option Value) (x : Str) (st : Stmt) (ps : List Str) (f : Addr) (fd : FuncData) : Prop where
  F : FunD K x x (defArgs st) (defBody st) (defScope st) [.non] [] f fd
  b : Binds K fd ps []
  b1 : ∃ ds, Vals [V.non] ds ∧ Binds K fd ps ds
  g : mg x = some (.ref f)
/-- a def whose only parameter is starred -/
structure DefS (K : PySem.W.Frag) (mg : Str → Option Value) (x : Str) (st : Stmt) (f : Addr) (fd : FuncData) : Prop where
  F : Fun K x x st f fd
  g : mg x = some (.ref f)
section
variable {X : Cx} {k : Nat} {f : Addr} {sp : Sp} {x : Str} {p pos : Pos} {e : Expr} {es : List Expr} {t : TA} {CX : CXT} {E : XK}
def tCallR (sp : Sp) (E : XK) (t : TA) : TE := fun σ H Q => t σ H fun vs H1 => sp vs H1 Q E
theorem pe_callR (F : FnR X.prog X.w X.K X.mg X.base CX k f sp) (hr : Room k X.A) (hg : Gl X x) (hm : X.mg x = some (.ref f)) (hk : PySem.W.keepIn X.K (.ref f) = true) (hx : Passes CX X E) (ha : PA X (e :: es) t)
    (hdb : (x == ("__debug__" : Str)) = false := by decide) (he : starEach (e :: es) X.env = (false, eval e X.env) :: starEach es X.env := by rfl) (hpl : (backTo pos (starEach es X.env)).any (·.1) = false := by rfl) :
    PE X (.Call (.Name x p) (e :: es) [] pos) (tCallR sp E t) :=
  ⟨fun pins s σ H Q I h => wpAny_Call_Name_kw (ld_glob I hg hm (PySem.W.callWith_K (h₀ := X.base) I.ok.mod.kin hk (thn (ha.run pos pins s σ H _ I h) fun us s1 z => by
    obtain ⟨vs, H1, I1, r, q⟩ := z
    exact ⟨I1.kIn, wpAny_call (run_fnR F hr hx I1 r q)⟩) he hpl) hdb)⟩
theorem pe_callR0 (F : FnR X.prog X.w X.K X.mg X.base CX k f sp) (hr : Room k X.A) (hg : Gl X x) (hm : X.mg x = some (.ref f)) (hk : PySem.W.keepIn X.K (.ref f) = true) (hx : Passes CX X E)
    (hdb : (x == ("__debug__" : Str)) = false := by decide) : PE X (.Call (.Name x p) [] [] pos) (tCallR sp E tNil) :=
  ⟨fun pins s σ H Q I h => wpAny_Call_Name_kw (ld_glob I hg hm (PySem.W.callWith_K0 I.kIn hk (wpAny_call (run_fnR (us := []) F hr hx I .nil h))) hdb)⟩
theorem rd_callR {σ : L2.St} {H : Hp} {Q : VK} (q : t σ H fun vs H1 => sp vs H1 Q E) : tCallR sp E t σ H Q := q
theorem rd_callD {σ : L2.St} {H : Hp} {Q : VK} {ds : List V} (q : t σ H fun vs H1 => sp (vs ++ ds) H1 Q E) : tCall sp ds E t σ H Q := q
end
end Rv
/-! several except clauses, each with a name of its own -/
namespace Rv
open PySem PySem.Spec PyProof.Rows L2
abbrev Suite := Addr → Value → Option Addr → TS
/-- what follows a suite whose name (slot i) is taken away again -/
def clr (i : Nat) (D : Ends) : Ends := ⟨fun σ H => D.nx (σ.set i none) H, D.rt, fun σ H => D.bk (σ.set i none) H, fun σ H => D.ct (σ.set i none) H⟩
/-- the clauses' wish, from the first on: class, slot, suite -/
def wCl (K : PySem.W.Frag) (D : Ends) : List (Value × Nat × Suite) → WX
  | [] => fun _ _ _ _ => False
  | (c, i, ts) :: r => fun q d σ H => ∃ b, PySem.W.exmOne K q c = some b ∧
      if b = true then ∀ a, H a = none → ts a q d (clr i D) (σ.set i (some (.ref a))) H else wCl K D r q d σ H
/-- the clauses of the text, each with its rule -/
inductive ClOk (X : Cx) : List ExceptHandler → List (Value × Nat × Suite) → Prop
  | nil {hs : List ExceptHandler} : ClOk X hs []
  | cons {x n : Str} {c : Value} {i : Nat} {ts : Suite} {b : Stmt} {bs : List Stmt} {np p : Pos} {hs : List ExceptHandler} {l : List (Value × Nat × Suite)} (hc : Names X x c) (hi : X.N[i]? = some n) (hn : X.env.kindOf n = some .local)
      (su : ∀ (a : Addr) (o : Obj) (q : Value) (d : Option Addr) (pn : List (Addr × Obj)), Zc q d o → (∃ vs, o.data = .fields vs) → PSs (X.suite a ((a, o) :: pn)) (b :: bs) (ts a q d)) (r : ClOk X hs l) :
      ClOk X (.ExceptHandler (some (.Name x np)) (some n) (b :: bs) p :: hs) ((c, i, ts) :: l)
section
variable {X : Cx} {pins : List (Addr × Obj)} {σ : L2.St} {H : Hp} {s s' : Shared} {a : Addr} {G h3 : Heap} {D : Ends} {q : Value} {d : Option Addr}
/-- what is known where an exception of the body has landed -/
structure Lands (X : Cx) (pins : List (Addr × Obj)) (σ : L2.St) (H : Hp) (s s' : Shared) (a : Addr) (G h3 : Heap) (q : Value) (d : Option Addr) : Prop where
  inv : Inv X pins σ H s
  nb : ∀ b o, s.heap.get? b = some o → b ∉ frs X.stack → G.get? b = some o
  up : s.heap.UpToSlots s'.heap
  os : s'.os = s.os
  ag : AllBare s'.gens
  na : H a = none
  fl : HandSPX.FlyingZ G (X.env :: X.outer) a (Zc q d) h3
  up3 : s'.heap.UpToSlots h3
theorem Lands.suite (L : Lands X pins σ H s s' a G h3 q d) (hf : X.env.frame = some X.env.locals) : ∃ o, h3.get? a = some o ∧ Zc q d o ∧ (∃ vs, o.data = .fields vs) ∧ Inv (X.suite a ((a, o) :: (X.pn ++ pins))) [] σ H { s' with heap := h3 } := by
  have J : Inv X pins σ H { s' with heap := h3 } := L.inv.landed L.nb L.fl.1 (L.up.trans L.up3) L.os L.ag
  obtain ⟨o, vs, ho, hz, hd⟩ := L.fl.there
  have far : a ∉ frs (X.env :: X.outer) := fun hm => by
    obtain ⟨_, o2, h2, nf⟩ := L.fl.2.2.1.mem hm
    rw [ho] at h2
    cases h2
    exact nf _ hd
  refine ⟨o, ho, hz, ⟨_, hd⟩, J.suite ho hd L.na (fun z => far ?_) fun hm => far ?_⟩
  · exact List.mem_filterMap.mpr ⟨X.env, List.mem_cons_self, by rw [hf, z]⟩
  · obtain ⟨e, he, z⟩ := List.mem_filterMap.mp hm
    exact List.mem_filterMap.mpr ⟨e, List.mem_cons_of_mem _ he, z⟩
theorem Lands.go (hN : X.N.Nodup) (hf : X.env.frame = some X.env.locals) : ∀ {hs : List ExceptHandler} {l : List (Value × Nat × Suite)} {h3 : Heap}, ClOk X hs l → Lands X pins σ H s s' a G h3 q d → wCl X.K D l q d σ H →
    wpAny (model X.prog X.w) X.A (handleBy (.ref a) X.env hs) (SP X pins D) X.xe { s' with heap := h3 } := by
  intro hs l h3 k
  induction k with
  | nil => exact fun _ w => w.elim
  | @cons x n c i ts b bs np p hs l hc hi hn su r ih =>
    intro L w
    obtain ⟨t, e1, w⟩ := w
    obtain ⟨o, ho, hz, hd, S⟩ := L.suite hf
    have cls : PySem.W.Looks (model X.prog X.w) h3 (typeOf (.ref a)) q := fun A Q E s k z => wpAny_typeOf_ref (k _ _ ho) (by rw [hz.1]; exact z)
    have ask := PySem.W.exm_one (M := model X.prog X.w) (show X.K.In h3 from S.kIn) cls e1
    have look : ∀ {Q E : Value → Shared → Prop}, Q c { s' with heap := h3 } → wpAny (model X.prog X.w) (X.A.mark (some (.ref a))) (eval (.Name x np) X.env) Q E { s' with heap := h3 } := fun z => by
      obtain ⟨hg, hb, hm | ⟨hm, hv, nn⟩⟩ := hc
      · exact ld_glob (X := X.suite a ((a, o) :: (X.pn ++ pins))) S hg hm z hb
      · exact ld_blt (X := X.suite a ((a, o) :: (X.pn ++ pins))) S hg hm hv z nn hb
    refine wpAny_handleBy_cons (codeAny_handlers_test (look (ask.here ?_))) (fun z => nomatch z)
    cases t with
    | false => exact ih L w
    | true =>
      refine codeAny_handlers_suite_as (HandSPX.lands_againZ L.fl fun h4 fl4 up4 => ?_)
      have L4 : Lands X pins σ H s s' a G h4 q d := { L with fl := fl4, up3 := L.up3.trans up4 }
      obtain ⟨o4, ho4, hz4, hd4, S4⟩ := L4.suite hf
      have w4 : ts a q d (clr i D) (σ.set i (some (.ref a))) H := w a L.na
      refine store_ok (X := X.suite a ((a, o4) :: (X.pn ++ pins))) (v := .ref a) S4 hN hi (.inl hn) rfl (fun s5 S5 => ?_) (.inr hn)
      refine wpAny_mono ((su a o4 q d (X.pn ++ pins) hz4 hd4).run [] s5 _ H _ S5 w4) (fun f s6 hp => ?_) (fun _ _ z => z.elim)
      have away : ∀ {σ6 : L2.St} {H6 : Hp} {R : Shared → Prop}, Inv (X.suite a ((a, o4) :: (X.pn ++ pins))) [] σ6 H6 s6 → (∀ s7, Inv X pins (σ6.set i none) H6 s7 → R s7) →
          wpAny (model X.prog X.w) X.A (do bindName X.env n .none; unbindBehindTheSuite X.env n p) (fun _ s7 => R s7) X.xe s6 := fun S6 z => gone_ok (S6.unsuite L.inv.ok) hN hi hn z
      cases f with
      | next => exact hp.elim fun _ hp => hp.elim fun _ hp => away hp.1 fun s7 J => ⟨_, _, J, hp.2⟩
      | brk => exact hp.elim fun _ hp => hp.elim fun _ hp => away hp.1 fun s7 J => ⟨_, _, J, hp.2⟩
      | cont => exact hp.elim fun _ hp => hp.elim fun _ hp => away hp.1 fun s7 J => ⟨_, _, J, hp.2⟩
      | ret u => exact hp.elim fun _ hp => hp.elim fun _ hp => hp.elim fun _ hp => away hp.1 fun s7 J => ⟨_, _, _, J, hp.2.1, hp.2.2⟩
end
def tTryM (K : PySem.W.Frag) (l : List (Value × Nat × Suite)) (tb : WX → TS) : TS := fun D σ H => tb (wCl K D l) D σ H
theorem ps_tryM {X : Cx} {body : List Stmt} {h₀ : ExceptHandler} {hs : List ExceptHandler} {pos : Pos} (l : List (Value × Nat × Suite)) (tb : WX → TS) (hst : X.stack = X.env :: X.outer) (hf : X.env.frame = some X.env.locals) (hN : X.N.Nodup)
    (hb : ∀ (W : WX) (pn : List (Addr × Obj)) (xe : Value → Shared → Prop), Takes (X.tr pn xe) W → PSs (X.tr pn xe) body (tb W)) (hh : ClOk X (h₀ :: hs) l) : PS X (.Try body (h₀ :: hs) [] [] pos) (tTryM X.K l tb) := by
  refine ⟨fun pins s σ H D I h => ?_⟩
  have ok := I.ok
  have fr : X.A.frames = some (X.env :: X.outer) := ok.frames.trans (congrArg some hst)
  refine wpAny_Try_except (wpAny_mono ((hb (wCl X.K D l) (X.pn ++ pins) _ (fun u s' xx => ?_)).run [] s σ H D (I.toTry _) h) (fun f s1 hp => ?_) fun _ _ z => z)
  · obtain ⟨a, G, sI, _, σ', H', q, d, rfl, J, nb, up, sky, na, os, ag, w⟩ := xx
    have sky2 : Sky G (X.env :: X.outer) a (Zc q d) X.env.locals s'.heap := hst ▸ sky
    exact Sky.land Zc.steady fr hf sky2 fun h3 fl up3 => Lands.go hN hf hh ⟨J.ofTry ok, nb, up, os, ag, na, fl, up3⟩ w
  · cases f with
    | next => exact hp.elim fun _ hp => hp.elim fun _ hp => wpAny_execs_nil ⟨_, _, hp.1.ofTry ok, hp.2⟩
    | brk => exact hp.elim fun _ hp => hp.elim fun _ hp => ⟨_, _, hp.1.ofTry ok, hp.2⟩
    | cont => exact hp.elim fun _ hp => hp.elim fun _ hp => ⟨_, _, hp.1.ofTry ok, hp.2⟩
    | ret u => exact hp.elim fun _ hp => hp.elim fun _ hp => hp.elim fun _ hp => ⟨_, _, _, hp.1.ofTry ok, hp.2.1, hp.2.2⟩
end Rv
/-! more steps of a reading; data at any depth; items that may be no lines; copy logs -/
namespace Rv
open PySem PySem.Spec PyProof.Rows L2
/-! methods of lists -/
def rInsQ : V → List V → Hp → VK → Prop := fun x vs H Q => ∃ (l : Addr) (xs : List V) (k : Nat) (y : V), x = .ref l ∧ vs = [.int (k : Int), y] ∧ H l = some (.lst xs) ∧ xs.length ≤ 1000 ∧ k ≤ 1000 ∧ Q .non (upd H l (.lst (xs.take k ++ [y] ++ xs.drop k)))
def rPopQ : V → List V → Hp → VK → Prop := fun x vs H Q => ∃ (l : Addr) (xs : List V) (k : Nat) (y : V), x = .ref l ∧ vs = [.int (k : Int)] ∧ H l = some (.lst xs) ∧ xs[k]? = some y ∧ k ≤ 1000 ∧ Q y (upd H l (.lst (xs.eraseIdx k)))
theorem mt_insQ {X : Cx} : MtR X "list.insert" rInsQ := fun pins s σ H x xs v us Q I rx rs h => by
  obtain ⟨l, ys, k, y, rfl, rfl, e, h1, h2, q⟩ := h
  exact mt_insert pins s σ H _ _ v us Q I rx rs ⟨l, ys, (k : Int), y, rfl, rfl, e, small1000 (by omega), by omega, by omega, q⟩
theorem mt_popQ {X : Cx} : MtM X "list.pop" rPopQ := fun pins s σ H x xs v us Q I rx rs h => by
  obtain ⟨l, ys, k, y, rfl, rfl, e, h1, h2, q⟩ := h
  have hk : k < ys.length := by
    by_cases z : k < ys.length
    · exact z
    · rw [List.getElem?_eq_none (by omega)] at h1
      cases h1
  refine mt_popAt pins s σ H _ _ v us Q I rx rs ⟨l, ys, (k : Int), k, y, rfl, rfl, e, by omega, by omega, ?_, h1, q⟩
  unfold seqIndex?
  have e1 : (if (k : Int) < 0 then (k : Int) + (ys.length : Int) else (k : Int)) = (k : Int) := if_neg (by omega)
  show (if (decide (0 ≤ (if (k : Int) < 0 then (k : Int) + (ys.length : Int) else (k : Int))) && decide ((if (k : Int) < 0 then (k : Int) + (ys.length : Int) else (k : Int)) < (ys.length : Int))) = true then _ else _) = _
  rw [e1, if_pos (by rw [Bool.and_eq_true]; exact ⟨decide_eq_true (by omega), decide_eq_true (by omega)⟩), Int.toNat_natCast]
section
variable {σ : L2.St} {H : Hp} {K : PySem.W.Frag} {Q : VK} {te : TE} {tr : TA} {p p2 l : Addr} {xs ys : List V} {R : It → Hp → Prop} {y : V} {k : Nat} {QB : Bool → Hp → Prop}
theorem rd_insQ (h : H l = some (.lst xs)) (hl : xs.length ≤ 1000) (hk : k ≤ 1000) (q : Q .non (upd H l (.lst (xs.take k ++ [y] ++ xs.drop k)))) : rInsQ (.ref l) [.int (k : Int), y] H Q := ⟨l, xs, k, y, rfl, rfl, h, hl, hk, q⟩
theorem rd_popQ (h : H l = some (.lst xs)) (e : xs[k]? = some y) (hk : k ≤ 1000) (q : Q y (upd H l (.lst (xs.eraseIdx k)))) : rPopQ (.ref l) [.int (k : Int)] H Q := ⟨l, xs, k, y, rfl, rfl, h, e, hk, q⟩
def Rg2 (R : It → Hp → Prop) (vs : List V) (H : Hp) : Prop := ∃ i j : Int, vs = [.int i, .int j] ∧ (-(2 ^ 62) ≤ i ∧ i < 2 ^ 62 ∧ -(2 ^ 62) ≤ j ∧ j < 2 ^ 62) ∧ R (Itr i (j - i).toNat) H
theorem rd_iRg2 (q : tr σ H fun vs H1 => Rg2 R vs H1) : iRng2 tr σ H R := q
theorem rd_Rg2 {i j : Int} (h : -100000 ≤ i ∧ i ≤ 100000 ∧ -100000 ≤ j ∧ j ≤ 100000) (q : R (Itr i (j - i).toNat) H) : Rg2 R [.int i, .int j] H := ⟨i, j, rfl, by omega, q⟩
theorem rd_truL (h : te σ H fun x H1 => ∃ p xs, x = .ref p ∧ H1 p = some (.lst xs) ∧ QB (!xs.isEmpty) H1) (m : ∀ σ H (Q1 Q2 : VK), (∀ x H, Q1 x H → Q2 x H) → te σ H Q1 → te σ H Q2) : tTruQ K te σ H QB :=
  m σ H _ _ (fun x H1 q => by
    obtain ⟨p, xs, rfl, e, q2⟩ := q
    exact ⟨_, .inl ⟨xs, SqL.of e, rfl⟩, q2⟩) h
theorem rd_truLv {i : Nat} (hv : σ[i]? = some (some (.ref p))) (h : H p = some (.lst xs)) (q : QB (!xs.isEmpty) H) : tTruQ K (tVar i) σ H QB := ⟨_, hv, _, .inl ⟨xs, SqL.of h, rfl⟩, q⟩
theorem rd_catL {xs ys : List V} (h : H p = some (.lst xs)) (h2 : H p2 = some (.lst ys)) (hl : xs.length + ys.length ≤ 1000) (q : ∀ l, H l = none → Q (.ref l) (upd H l (.lst (xs ++ ys)))) : rCat (.ref p) (.ref p2) H Q := ⟨p, p2, xs, ys, rfl, rfl, h, h2, Nat.le_of_lt (small1000 (by omega)), q⟩
theorem rd_isiN {T : String} {b : Bool} (e : kitB "NoneType" T = some b) (q : Q (.bl b) H) : rIsi K [.non, .ty T] H Q := ⟨_, _, _, _, b, rfl, .ty T, .base .non, kit_ty e, q⟩
theorem kit_nt : kitB "NoneType" "tuple" = some false := by decide +kernel
theorem kit_nl : kitB "NoneType" "list" = some false := by decide +kernel
theorem kit_lt : kitB "list" "tuple" = some false := by decide +kernel
theorem kit_tl : kitB "tuple" "list" = some false := by decide +kernel
theorem rd_inLf {x : V} (h : H p = some (.lst xs)) (fx : flatV x = true) (fs : xs.all flatV = true) (q : Q (.bl (inV x xs)) H) : rIn K false x (.ref p) H Q := ⟨p, xs, rfl, .inl (SqL.of h), fx, fs, q⟩
theorem rd_ninLf {x : V} (h : H p = some (.lst xs)) (fx : flatV x = true) (fs : xs.all flatV = true) (q : Q (.bl (!inV x xs)) H) : rIn K true x (.ref p) H Q := ⟨p, xs, rfl, .inl (SqL.of h), fx, fs, q⟩
end
theorem flat_ints (ns : List Int) : (ns.map V.int).all flatV = true := List.all_eq_true.mpr fun x h => by
  obtain ⟨n, _, rfl⟩ := List.mem_map.mp h
  rfl
theorem inV_ints {k : Int} {ns : List Int} : inV (.int k) (ns.map V.int) = decide (k ∈ ns) := by
  unfold inV
  rw [List.any_map]
  have e : ((fun y => eqV y (.int k)) ∘ V.int) = fun n : Int => n == k := by
    funext n
    rfl
  rw [e, Bool.eq_iff_iff, List.any_eq_true, decide_eq_true_eq]
  exact ⟨fun ⟨x, h1, h2⟩ => by rw [← beq_iff_eq.mp h2]; exact h1, fun h => ⟨k, h, beq_self_eq_true _⟩⟩
theorem rd_idx {K : PySem.W.Frag} {H : Hp} {Q : VK} {p : Addr} {ns : List Int} {k : Int} {j : Nat} (h : H p = some (.lst (ns.map V.int))) (e : ns[j]? = some k) (no : ∀ m, m < j → ns[m]? ≠ some k) (q : Q (.int (j : Int)) H) : rIndex K (.ref p) [.int k] H Q := by
  refine ⟨p, _, .int k, j, .int k, rfl, rfl, SqL.of h, rfl, flat_ints ns, by rw [List.getElem?_map, e]; rfl, beq_self_eq_true _, fun m z hm ez => ?_, q⟩
  rw [List.getElem?_map] at ez
  cases e2 : ns[m]? with
  | none => rw [e2] at ez; cases ez
  | some n =>
    rw [e2] at ez
    cases ez
    have ne := no m hm
    rw [e2] at ne
    exact beq_eq_false_iff_ne.mpr fun z => ne (by rw [z])
/-! data at any depth -/
structure Sh (k : Nat) (d : PyData) : Prop where
  l : PyData.canLay0 d = true
  d : PyData.depth d ≤ k
theorem Sh.int {k : Nat} (i : Int) : Sh k (.int i) := ⟨rfl, Nat.zero_le _⟩
theorem Sh.non {k : Nat} : Sh k .none := ⟨rfl, Nat.zero_le _⟩
theorem Sh.bool {k : Nat} (b : Bool) : Sh k (.bool b) := ⟨rfl, Nat.zero_le _⟩
theorem Sh.str {k : Nat} {s : Str} (h : PyData.strOk s = true) : Sh k (.str s) := ⟨h, Nat.zero_le _⟩
theorem Sh.all {k : Nat} : ∀ {ds : List PyData}, (∀ d ∈ ds, Sh k d) → PyData.canLayAll0 ds = true ∧ PyData.depthAll ds ≤ k
  | [], _ => ⟨rfl, Nat.zero_le _⟩
  | d :: r, h => by
    obtain ⟨a1, a2⟩ := h d (List.mem_cons_self ..)
    obtain ⟨b1, b2⟩ := Sh.all fun e he => h e (List.mem_cons_of_mem _ he)
    constructor
    · show (PyData.canLay0 d && PyData.canLayAll0 r) = true
      rw [a1, b1]
      rfl
    · show max (PyData.depth d) (PyData.depthAll r) ≤ k
      omega
theorem Sh.tuple {k : Nat} {ds : List PyData} (h : ∀ d ∈ ds, Sh k d) : Sh (k + 1) (.tuple ds) := ⟨(Sh.all h).1, Nat.succ_le_succ (Sh.all h).2⟩
theorem Sh.list {k : Nat} {ds : List PyData} (h : ∀ d ∈ ds, Sh k d) : Sh (k + 1) (.list ds) := ⟨(Sh.all h).1, Nat.succ_le_succ (Sh.all h).2⟩
theorem Sh.shaped {d : PyData} {k : Nat} (h : Sh k d) (hk : k ≤ 64) : SeqAt.shaped d = true := by
  unfold SeqAt.shaped
  rw [Bool.and_eq_true]
  exact ⟨h.l, decide_eq_true (Nat.le_trans h.d hk)⟩
theorem strOk_txt {cs : List Nat} (h : ∀ c ∈ cs, c < 128) : PyData.strOk (txt cs) = true := by
  unfold PyData.strOk txt
  rw [Array.all_eq_true]
  intro i hi
  have hi2 : i < cs.length := by simpa using hi
  have := h _ (List.getElem_mem hi2)
  simp
  omega
theorem rd_eqd {K : PySem.W.Frag} {H : Hp} {Q : VK} {x y : V} {d : PyData} {k : Nat} (h : Dp K H x d) (h2 : Dp K H y d) (s : Sh k d) (hk : k ≤ 64 := by decide) (q : Q (.bl true) H) : rEqD K x y H Q :=
  ⟨d, d, h, h2, s.shaped hk, s.shaped hk, by rw [SeqAt.eqv_refl _ s.l]; exact q⟩
theorem rd_ned {K : PySem.W.Frag} {H : Hp} {Q : VK} {x y : V} {d : PyData} {k : Nat} (h : Dp K H x d) (h2 : Dp K H y d) (s : Sh k d) (hk : k ≤ 64 := by decide) (q : Q (.bl false) H) : rNeD K x y H Q :=
  ⟨d, d, h, h2, s.shaped hk, s.shaped hk, by rw [SeqAt.eqv_refl _ s.l]; exact q⟩
/-! what may stand in a script -/
inductive Im where
  | tup (xs : List V)
  | lst (xs : List V)
  | non
def ImAt (M : List Addr) (H : Hp) (v : V) : Im → Prop
  | .tup xs => ∃ p, v = .ref p ∧ H p = some (.tup xs)
  | .lst xs => ∃ p, v = .ref p ∧ p ∉ M ∧ H p = some (.lst xs)
  | .non => v = .non
structure ImsAt (M : List Addr) (H : Hp) (vs : List V) (is : List Im) : Prop where
  len : vs.length = is.length
  at_ : ∀ (i : Nat) (it : Im), is[i]? = some it → ∃ v, vs[i]? = some v ∧ ImAt M H v it
theorem ImAt.keep {M M' : List Addr} {H H' : Hp} {v : V} {it : Im} (h : ImAt M H v it) (hm : ∀ a ∈ M', a ∈ M) (k : ∀ a o, a ∉ M → H a = some o → H' a = some o) (k2 : Kt H H') : ImAt M' H' v it := by
  cases it with
  | tup xs =>
    obtain ⟨p, e, h⟩ := h
    exact ⟨p, e, k2 _ _ h⟩
  | lst xs =>
    obtain ⟨p, e, n, h⟩ := h
    exact ⟨p, e, fun z => n (hm _ z), k _ _ n h⟩
  | non => exact h
theorem ImsAt.keep {M M' : List Addr} {H H' : Hp} {vs : List V} {is : List Im} (h : ImsAt M H vs is) (hm : ∀ a ∈ M', a ∈ M) (k : ∀ a o, a ∉ M → H a = some o → H' a = some o) (k2 : Kt H H') : ImsAt M' H' vs is :=
  ⟨h.len, fun i it e => by
    obtain ⟨v, e1, e2⟩ := h.at_ i it e
    exact ⟨v, e1, ImAt.keep e2 hm k k2⟩⟩
theorem ImsAt.same {M : List Addr} {H H' : Hp} {vs : List V} {is : List Im} (h : ImsAt M H vs is) (S : Same H H') : ImsAt M H' vs is := h.keep (fun _ z => z) (fun a o _ e => S a o e) (Kt.same S)
/-- four fields: a word, two numbers, a text -/
def Wf : Im → Prop
  | .tup xs => xs.length = 4 → ∃ r : Ln, xs = r.vals ∧ r.g.length ≤ 1000
  | _ => True
def Good (n : Nat) (it : Im) : Prop := ∃ r : Ln, it = .tup r.vals ∧ LnOk n r
theorem vals_inj {r r2 : Ln} (h : r.vals = r2.vals) : r = r2 := by
  cases r with
  | mk w t o g =>
    cases r2 with
    | mk w2 t2 o2 g2 =>
      unfold Ln.vals at h
      simp only [List.cons.injEq, V.str.injEq, V.int.injEq, and_true] at h
      obtain ⟨h1, h2, h3, h4⟩ := h
      have h5 := txt_inj h4
      subst h1 h2 h3 h5
      rfl
theorem good_vals {n : Nat} {r : Ln} : Good n (.tup r.vals) ↔ LnOk n r := ⟨fun ⟨r2, e, k⟩ => by
  have e2 : r.vals = r2.vals := Im.tup.inj e
  rw [vals_inj e2]
  exact k, fun k => ⟨r, rfl, k⟩⟩
theorem TupsAt.ims {M : List Addr} {H : Hp} {as : List Addr} {rs : List Ln} (h : TupsAt H as (rows rs)) : ImsAt M H (as.map V.ref) (rs.map fun r => .tup r.vals) := ⟨by rw [List.length_map, List.length_map, h.1, rows_len], fun i it e => by
  rw [List.getElem?_map] at e
  cases e2 : rs[i]? with
  | none => rw [e2] at e; cases e
  | some r =>
    rw [e2] at e
    cases e
    obtain ⟨p, e3, e4⟩ := h.2 i r.vals (by unfold rows; rw [List.getElem?_map, e2]; rfl)
    exact ⟨.ref p, by rw [List.getElem?_map, e3]; rfl, p, rfl, e4⟩⟩
/-! scripts that are right, and those that are not -/
def ScrYes (H : Hp) (n : Nat) (v : V) (rs : List Ln) : Prop := ∃ (l : Addr) (as : List Addr), v = .ref l ∧ H l = some (.lst (as.map V.ref)) ∧ TupsAt H as (rows rs) ∧ rs.length ≤ 60 ∧ ∀ r ∈ rs, LnOk n r
def ScrNo (H : Hp) (n : Nat) (v : V) (k : Int) : Prop :=
  (k = -1 ∧ (v = .non ∨ (∃ p xs, v = .ref p ∧ H p = some (.tup xs)) ∨ (∃ l vs, v = .ref l ∧ H l = some (.lst vs) ∧ 60 < vs.length ∧ vs.length ≤ 1000))) ∨
  (∃ (l : Addr) (vs : List V) (is : List Im) (j : Nat), v = .ref l ∧ H l = some (.lst vs) ∧ ImsAt [] H vs is ∧ is.length ≤ 60 ∧ (∀ it ∈ is, Wf it) ∧ k = (j : Int) ∧ (∃ it, is[j]? = some it ∧ ¬ Good n it) ∧ ∀ (i : Nat) (it : Im), i < j → is[i]? = some it → Good n it)
/-- a plain copy -/
def Plain (r : Ln) : Prop := r.w = sCopy ∧ r.g = []
def cl (p : Int × Int) : Ln := ⟨sCopy, p.1, p.2, []⟩
theorem PairOk.ln {n : Nat} {p : Int × Int} (h : PairOk n p) : LnOk n (cl p) := ⟨h.t0, h.t1, .inr ⟨.inl rfl, h.s0, h.s1, h.ne.symm⟩, .inl rfl, fun c hc => absurd hc List.not_mem_nil⟩
theorem plain_cl {n : Nat} {r : Ln} (h : LnOk n r) (p : Plain r) : r = cl (r.t, r.o) ∧ PairOk n (r.t, r.o) := by
  obtain ⟨p1, p2⟩ := p
  constructor
  · cases r
    simp only [cl] at *
    subst p1 p2
    rfl
  · rcases h.word with ⟨e, _⟩ | ⟨_, h1, h2, h3⟩
    · rw [p1] at e
      exact absurd e (by decide)
    · exact ⟨h.t0, h.t1, h1, h2, h3.symm⟩
/-- which error, with which index -/
def ScrOut (H : Hp) (n : Nat) (v : V) (C : String) (k : Int) : Prop :=
  (C = "InvalidLine" ∧ ScrNo H n v k) ∨ (C = "NotPlain" ∧ ∃ rs j, ScrYes H n v rs ∧ k = ((j : Nat) : Int) ∧ (∃ r, rs[j]? = some r ∧ ¬ Plain r) ∧ ∀ (i : Nat) r, i < j → rs[i]? = some r → Plain r)
theorem ScrYes.same {H H' : Hp} {n : Nat} {v : V} {rs : List Ln} (h : ScrYes H n v rs) (S : Same H H') : ScrYes H' n v rs := by
  obtain ⟨l, as, e, h1, h2, h3, h4⟩ := h
  exact ⟨l, as, e, S _ _ h1, h2.same S, h3, h4⟩
theorem ScrNo.same {H H' : Hp} {n : Nat} {v : V} {k : Int} (h : ScrNo H n v k) (S : Same H H') : ScrNo H' n v k := by
  rcases h with ⟨e, h | ⟨p, xs, e2, h⟩ | ⟨l, vs, e2, h, h2, h3⟩⟩ | ⟨l, vs, is, j, e, h1, h2, h3⟩
  · exact .inl ⟨e, .inl h⟩
  · exact .inl ⟨e, .inr (.inl ⟨p, xs, e2, S _ _ h⟩)⟩
  · exact .inl ⟨e, .inr (.inr ⟨l, vs, e2, S _ _ h, h2, h3⟩)⟩
  · exact .inr ⟨l, vs, is, j, e, S _ _ h1, h2.same S, h3⟩
theorem ScrOut.same {H H' : Hp} {n : Nat} {v : V} {C : String} {k : Int} (h : ScrOut H n v C k) (S : Same H H') : ScrOut H' n v C k := by
  rcases h with ⟨e, h⟩ | ⟨e, rs, j, h, h2⟩
  · exact .inl ⟨e, h.same S⟩
  · exact .inr ⟨e, rs, j, h.same S, h2⟩
theorem LogAt.yes {H : Hp} {D : Addr} {n : Nat} {ps : List (Int × Int)} (h : LogAt H D n ps) : True := trivial
theorem kit_refT {K : PySem.W.Frag} {S T : Addr} (h2 : PySem.W.isClsIn K T = true) (h3 : PySem.W.typeIn K (.ref T) = some (.type "type")) (h4 : PySem.W.subIn K (.ref S) (.ref T) = some true) :
    PySem.W.kitOne K (.ref S) (.ref T) = some true := by
  have e2 : ((PySem.W.clsIn K T).isSome && PySem.W.typeIn K (.ref T) == some (.type "type")) = true := by
    have h2' : (PySem.W.clsIn K T).isSome = true := h2
    rw [h2', h3] <;> rfl
  show (if (Value.ref S == Value.ref T) = true then some true else if ((PySem.W.clsIn K T).isSome && PySem.W.typeIn K (.ref T) == some (.type "type")) = true then PySem.W.subIn K (.ref S) (.ref T) else none) = some true
  by_cases z : (Value.ref S == Value.ref T) = true
  · rw [if_pos z]
  · rw [if_neg z, if_pos e2]
    exact h4
end Rv
/-! what copy logs do -/
namespace Rv
open PySem PySem.Spec PyProof.Rows L2
def aft (p : Int × Int) (es : List Int) : List Int := es.set p.1.toNat (es.getD p.2.toNat 0)
def fin (es : List Int) (ps : List (Int × Int)) : List Int := ps.foldl (fun es p => aft p es) es
def Full (es : List Int) : Prop := ∀ e ∈ es, 0 ≤ e ∧ e ≤ 999
theorem aft_len (p : Int × Int) (es : List Int) : (aft p es).length = es.length := List.length_set ..
theorem fin_app (es : List Int) (a b : List (Int × Int)) : fin es (a ++ b) = fin (fin es a) b := List.foldl_append ..
theorem fin_add (es : List Int) (a : List (Int × Int)) (p : Int × Int) : fin es (a ++ [p]) = aft p (fin es a) := fin_app es a [p]
theorem fin_len (es : List Int) : ∀ ps : List (Int × Int), (fin es ps).length = es.length
  | [] => rfl
  | p :: r => by
    show (fin (aft p es) r).length = _
    rw [fin_len (aft p es) r, aft_len]
theorem getD_full {es : List Int} (F : Full es) {k : Nat} (h : k < es.length) : 0 ≤ es.getD k 0 ∧ es.getD k 0 ≤ 999 := F _ (getD_mem h)
theorem aft_full {p : Int × Int} {es : List Int} (F : Full es) (ok : PairOk es.length p) : Full (aft p es) := fun e he => by
  have s0 := ok.s0
  have s1 := ok.s1
  rcases List.mem_or_eq_of_mem_set he with k | k
  · exact F _ k
  · rw [k]
    exact getD_full F (by omega)
theorem fin_full {es : List Int} : ∀ {ps : List (Int × Int)}, Full es → (∀ p ∈ ps, PairOk es.length p) → Full (fin es ps)
  | [], F, _ => F
  | p :: r, F, ok => fin_full (es := aft p es) (aft_full F (ok p (List.mem_cons_self ..))) fun q hq => by
    rw [aft_len]
    exact ok q (List.mem_cons_of_mem _ hq)
theorem full_img {es : List Int} (F : Full es) (h1 : 1 ≤ es.length) (h12 : es.length ≤ 12) : Img es := ⟨h1, h12, fun e he => by have := F e he; omega⟩
theorem own_full {n : Nat} (n12 : n ≤ 12) : Full (own n) := fun e he => by
  obtain ⟨k, hk, rfl⟩ := List.mem_map.mp he
  have := List.mem_range.mp hk
  omega
theorem code_full {es : List Int} (F : Full es) {j : Nat} (h : j < es.length) : (codes es)[j]'(by rw [codes_len]; exact h) ≠ 46 := by
  have e : (codes es)[j]'(by rw [codes_len]; exact h) = sg es[j] := by
    unfold codes
    rw [List.getElem_map]
  rw [e]
  have := F _ (List.getElem_mem h)
  unfold sg
  rw [if_neg (by omega)]
  omega
theorem works_cl {p : Int × Int} {es : List Int} (F : Full es) (ok : PairOk es.length p) : worksL (cl p) (codes es) = true := by
  have s0 := ok.s0
  have s1 := ok.s1
  have hj : p.2.toNat < es.length := by omega
  have e1 : fitsL (cl p).g (codes es) = true := rfl
  have e2 : fullAt (codes es) (cl p).o = true := by
    have z := code_full F hj
    unfold fullAt
    show (!decide ((codes es).getD p.2.toNat 0 = 46)) = true
    rw [getD_getN (by rw [codes_len]; exact hj), decide_eq_false z]
    rfl
  unfold worksL
  rw [e1, e2, Bool.or_true]
  rfl
theorem step_cl {p : Int × Int} {es : List Int} (F : Full es) (ok : PairOk es.length p) : stepL (cl p) es = aft p es := by
  have t0 := ok.t0
  have okl : LnOk (codes es).length (cl p) := by rw [codes_len]; exact ok.ln
  have wk := works_cl F ok
  refine List.ext_getElem (by rw [step_len, aft_len]) fun j h1 h2 => ?_
  have hj : j < es.length := by rw [step_len] at h1; exact h1
  have hc : j < (codes es).length := by rw [codes_len]; exact hj
  have g := orig_get okl hc
  rw [if_pos wk, if_neg (show ¬ ((cl p).w = sMove ∧ (j : Int) = (cl p).o) from fun z => absurd (show sCopy = sMove from z.1) (by decide)), if_neg (code_full F hj)] at g
  have c : (stepL (cl p) es)[j] = _ := car_get2 (hs := origL (cl p) (codes es)) (es := es) (i := j) (by rw [orig_len]; exact hc)
  rw [c, g]
  show _ = (es.set p.1.toNat (es.getD p.2.toNat 0))[j]'(by rw [List.length_set]; exact hj)
  rw [List.getElem_set]
  by_cases k : p.1.toNat = j
  · rw [if_pos (show (j : Int) = (cl p).t from by show (j : Int) = p.1; omega), if_pos k]
    exact if_neg (show ¬ p.2 = -1 from by have := ok.s0; omega)
  · rw [if_neg (show ¬ (j : Int) = (cl p).t from fun z => k (by have z2 : (j : Int) = p.1 := z; omega)), if_neg k, if_neg (by omega), Int.toNat_natCast, getD_get hj]
def lns (ps : List (Int × Int)) : List Ln := ps.map cl
def wayF (es : List Int) (ps : List (Int × Int)) : List (List Int) := (List.range (ps.length + 1)).map fun i => fin es (ps.take i)
theorem wayF_len (es : List Int) (ps : List (Int × Int)) : (wayF es ps).length = ps.length + 1 := by simp [wayF]
theorem wayF_get (es : List Int) (ps : List (Int × Int)) {i : Nat} (h : i ≤ ps.length) : (wayF es ps)[i]? = some (fin es (ps.take i)) := by
  unfold wayF
  rw [List.getElem?_map, List.getElem?_range (by omega)]
  rfl
theorem wayF_add (es : List Int) (ps : List (Int × Int)) (p : Int × Int) : wayF es (ps ++ [p]) = wayF es ps ++ [aft p (fin es ps)] := by
  unfold wayF
  rw [List.length_append, List.length_singleton, List.range_succ, List.map_append]
  congr 1
  · refine List.map_congr_left fun i hi => ?_
    have := List.mem_range.mp hi
    rw [List.take_append_of_le_length (by omega)]
  · rw [List.map_singleton, List.take_of_length_le (by simp), fin_add]
theorem runP_cl {es : List Int} (F : Full es) : ∀ (m : Nat) (ps : List (Int × Int)), ps.length = m → (∀ p ∈ ps, PairOk es.length p) → runP ([es], es) (lns ps) = (wayF es ps, fin es ps)
  | 0, ps, e, _ => by
    obtain rfl := List.length_eq_zero_iff.mp e
    rfl
  | m + 1, ps, e, ok => by
    have ne : ps ≠ [] := fun z => by rw [z] at e; cases e
    obtain ⟨init, p, rfl⟩ : ∃ init p, ps = init ++ [p] := ⟨ps.dropLast, ps.getLast ne, (List.dropLast_concat_getLast ne).symm⟩
    rw [List.length_append] at e
    have oki : ∀ q ∈ init, PairOk es.length q := fun q hq => ok q (List.mem_append_left _ hq)
    have ih := runP_cl F m init (by simpa using e) oki
    have e1 : lns (init ++ [p]) = lns init ++ [cl p] := by simp [lns]
    rw [e1, runP_add, ih, wayF_add, fin_add, step_cl (fin_full F oki) (by rw [fin_len]; exact ok p (by simp))]
theorem lns_len (ps : List (Int × Int)) : (lns ps).length = ps.length := by simp [lns]
theorem lns_ok {n : Nat} {ps : List (Int × Int)} (ok : ∀ p ∈ ps, PairOk n p) : ∀ r ∈ lns ps, LnOk n r := fun r hr => by
  obtain ⟨p, hp, rfl⟩ := List.mem_map.mp hr
  exact (ok p hp).ln
/-! idle lines -/
def at_ (n : Nat) (ps : List (Int × Int)) (k : Nat) : List Int := fin (own n) (ps.take k)
def idleB (n : Nat) (ps : List (Int × Int)) (k : Nat) : Bool := match ps[k]? with
  | some p => decide ((at_ n ps k).getD p.1.toNat 0 = (at_ n ps k).getD p.2.toNat 0)
  | none => false
def idleU (n : Nat) (ps : List (Int × Int)) (i : Nat) : List Nat := (List.range i).filter (idleB n ps)
def keepU (n : Nat) (ps : List (Int × Int)) (i : Nat) : List (Int × Int) := (List.range i).filterMap fun k => if idleB n ps k = true then none else ps[k]?
theorem idleU_add (n : Nat) (ps : List (Int × Int)) (i : Nat) : idleU n ps (i + 1) = idleU n ps i ++ (if idleB n ps i = true then [i] else []) := by
  unfold idleU
  rw [List.range_succ, List.filter_append]
  congr 1
  by_cases k : idleB n ps i = true
  · rw [if_pos k, List.filter_cons_of_pos k]
    rfl
  · rw [if_neg k, List.filter_cons_of_neg k]
    rfl
theorem keepU_add (n : Nat) (ps : List (Int × Int)) (i : Nat) : keepU n ps (i + 1) = keepU n ps i ++ (if idleB n ps i = true then [] else (ps[i]?).toList) := by
  unfold keepU
  rw [List.range_succ, List.filterMap_append]
  congr 1
  by_cases k : idleB n ps i = true
  · rw [if_pos k]
    simp [List.filterMap_cons, k]
  · rw [if_neg k]
    cases e : ps[i]? with
    | none => simp [List.filterMap_cons, k, e]
    | some p => simp [List.filterMap_cons, k, e]
theorem idle_mem {n : Nat} {ps : List (Int × Int)} {i k : Nat} (h : k < i) : k ∈ idleU n ps i ↔ idleB n ps k = true := by
  unfold idleU
  rw [List.mem_filter, List.mem_range]
  exact ⟨fun z => z.2, fun z => ⟨h, z⟩⟩
theorem idleU_le (n : Nat) (ps : List (Int × Int)) (i : Nat) : (idleU n ps i).length ≤ i := by
  have := List.length_filter_le (idleB n ps) (List.range i)
  rw [List.length_range] at this
  exact this
theorem keepU_le (n : Nat) (ps : List (Int × Int)) (i : Nat) : (keepU n ps i).length ≤ i := by
  unfold keepU
  have := List.length_filterMap_le (fun k => if idleB n ps k = true then none else ps[k]?) (List.range i)
  rw [List.length_range] at this
  exact this
theorem set_same {α : Type} {es : List α} {j : Nat} {d : α} (h : j < es.length) : es.set j (es.getD j d) = es := by
  refine List.ext_getElem (List.length_set ..) fun k h1 h2 => ?_
  rw [List.getElem_set]
  by_cases e : j = k
  · subst e
    rw [if_pos rfl, List.getD_eq_getElem?_getD, List.getElem?_eq_getElem h]
    rfl
  · rw [if_neg e]
theorem keepU_mem {n : Nat} {ps : List (Int × Int)} {i : Nat} {p : Int × Int} (h : p ∈ keepU n ps i) : p ∈ ps := by
  obtain ⟨k, _, e⟩ := List.mem_filterMap.mp h
  by_cases z : idleB n ps k = true
  · rw [if_pos z] at e
    cases e
  · rw [if_neg z] at e
    exact List.mem_of_getElem? e
theorem keep_all {n : Nat} {ps : List (Int × Int)} (ok : ∀ p ∈ ps, PairOk n p) : ∀ i, i ≤ ps.length → fin (own n) (keepU n ps i) = at_ n ps i ∧ ∀ k, k < (keepU n ps i).length → idleB n (keepU n ps i) k = false
  | 0, _ => ⟨rfl, fun k h => absurd h (Nat.not_lt_zero k)⟩
  | i + 1, h => by
    obtain ⟨h1, h2⟩ := keep_all ok i (by omega)
    have hi : i < ps.length := by omega
    have okp := ok _ (List.getElem_mem hi)
    have e2 : at_ n ps (i + 1) = aft ps[i] (at_ n ps i) := by
      unfold at_
      rw [take_next hi, fin_add]
    have eb : idleB n ps i = decide ((at_ n ps i).getD ps[i].1.toNat 0 = (at_ n ps i).getD ps[i].2.toNat 0) := by
      unfold idleB
      rw [List.getElem?_eq_getElem hi]
    have la : (at_ n ps i).length = n := by
      unfold at_
      rw [fin_len, own_len]
    rw [keepU_add, e2]
    by_cases k : idleB n ps i = true
    · rw [if_pos k, List.append_nil]
      refine ⟨?_, h2⟩
      rw [h1]
      rw [eb] at k
      unfold aft
      rw [← of_decide_eq_true k, set_same (by rw [la]; have := okp.t0; have := okp.t1; omega)]
    · rw [if_neg k, List.getElem?_eq_getElem hi]
      refine ⟨by show fin (own n) (_ ++ [_]) = _; rw [fin_add, h1], fun j hj => ?_⟩
      have hj2 : j < (keepU n ps i ++ [ps[i]]).length := hj
      rw [List.length_append, List.length_singleton] at hj2
      show idleB n (keepU n ps i ++ [ps[i]]) j = false
      unfold idleB at_
      by_cases z : j < (keepU n ps i).length
      · have q := h2 j z
        unfold idleB at_ at q
        rw [List.getElem?_append_left z, List.take_append_of_le_length (by omega)]
        exact q
      · have e3 : j = (keepU n ps i).length := by omega
        subst e3
        rw [List.getElem?_append_right (Nat.le_refl _), Nat.sub_self, List.take_append_of_le_length (Nat.le_refl _), List.take_of_length_le (Nat.le_refl _), h1]
        rw [eb] at k
        exact Bool.eq_false_iff.mpr k
theorem keep_none {n : Nat} {ps : List (Int × Int)} (ok : ∀ p ∈ ps, PairOk n p) : idleU n (keepU n ps ps.length) (keepU n ps ps.length).length = [] := by
  unfold idleU
  rw [List.filter_eq_nil_iff]
  intro k hk
  rw [(keep_all ok ps.length (Nat.le_refl _)).2 k (List.mem_range.mp hk)]
  exact Bool.false_ne_true
/-- a comprehension whose step makes nothing of what stood; Pv tells what is made so far -/
theorem lc_acc2 {J : It} {n : Nat} {G : Hp → Prop} {Y : Nat → Hp → V → Hp → Prop} (w : Walk J n G Y) {g : TG} {tt : TT} {te : TE} {vs : List Nat} {σ : L2.St} {H0 : Hp} {Q : VK} (Pv : Nat → List V → Hp → Prop) (p0 : Pv 0 [] H0)
    (st : ∀ i acc H H', Kt H H' → Pv i acc H → Pv i acc H') (sm : ∀ i acc H, i ≤ n → Pv i acc H → acc.length < 1000) (hG : ∀ H, Same H0 H → G H)
    (hs : ∀ i x H H' acc (Qc : VK) (R : Hp → Prop), i < n → Same H0 H → Pv i acc H → Y i H x H' → (∀ y H4, Same H H4 → Pv (i + 1) (acc ++ [y]) H4 → Qc y H4) → (∀ H4, Same H H4 → Pv (i + 1) acc H4 → R H4) →
      g x (wipe σ vs) H' fun σ2 H2 => wipe σ2 vs = wipe σ vs ∧ tt σ2 H2 fun b H3 => if b = true then te σ2 H3 Qc else R H3)
    (hd : ∀ H D acc, Same H0 H → H0 D = none → H D = some (.lst acc) → Pv n acc H → Q (.ref D) H) : Lc J g tt te vs σ H0 Q := fun D nD =>
  lc_it w (Qd := fun H => Q (.ref D) H) (fun i H => Same H0 H ∧ i ≤ n ∧ ∃ acc, H D = some (.lst acc) ∧ Pv i acc H) ⟨same_new (Same.refl _) nD, Nat.zero_le _, [], upd_same, st _ _ _ _ (Kt.new nD) p0⟩ (fun i H _ p => hG H p.1)
    (fun i x H H' hi p y => by
      obtain ⟨w0, hin, acc, hD, pa⟩ := p
      refine hs i x H H' acc _ _ hi w0 pa y (fun z H4 S4 pz => ?_) (fun H4 S4 pz => ⟨w0.trans S4, hi, acc, S4 _ _ hD, pz⟩)
      have hD4 := S4 _ _ hD
      exact ⟨acc, hD4, small1000 (by have := sm i acc H (by omega) pa; omega), same_mut (w0.trans S4) nD, hi, _, upd_same, st _ _ _ _ (Kt.mut hD4) pz⟩)
    (fun H p => by
      obtain ⟨w0, _, acc, hD, pa⟩ := p
      exact hd H D acc w0 nD hD pa)
theorem lc_acc {J : It} {n : Nat} {G : Hp → Prop} {Y : Nat → Hp → V → Hp → Prop} (w : Walk J n G Y) {g : TG} {tt : TT} {te : TE} {vs : List Nat} {σ : L2.St} {H0 : Hp} {Q : VK} (Pv : Nat → List V → Prop) (p0 : Pv 0 [])
    (sm : ∀ i acc, i ≤ n → Pv i acc → acc.length < 1000) (hG : ∀ H, Same H0 H → G H)
    (hs : ∀ i x H H' acc (Qc : VK) (R : Hp → Prop), i < n → Same H0 H → Pv i acc → Y i H x H' → (∀ y H4, Same H H4 → Pv (i + 1) (acc ++ [y]) → Qc y H4) → (∀ H4, Same H H4 → Pv (i + 1) acc → R H4) →
      g x (wipe σ vs) H' fun σ2 H2 => wipe σ2 vs = wipe σ vs ∧ tt σ2 H2 fun b H3 => if b = true then te σ2 H3 Qc else R H3)
    (hd : ∀ H D acc, Same H0 H → H0 D = none → H D = some (.lst acc) → Pv n acc → Q (.ref D) H) : Lc J g tt te vs σ H0 Q :=
  lc_acc2 w (fun i acc _ => Pv i acc) p0 (fun _ _ _ _ _ p => p) (fun i acc _ => sm i acc) hG hs hd
theorem rd_tupRg {te : L2.St → Hp → (Int → Int → Hp → Prop) → Prop} {σ : L2.St} {H : Hp} {Q : VK} (q : te σ H fun a b H1 => RgOk a b ∧ ∀ q, H1 q = none → Q (.ref q) (upd H1 q (.tup (rgV a b)))) : tTupRg te σ H Q := q
end Rv
/-! new objects by what holds of them; the box of the laws on copy logs; orders -/
namespace Rv
open PySem PySem.Spec PyProof.Rows L2
def New (o : HO) (n : Nat) (Q : VK) (H : Hp) : Prop := n ≤ sizeLine ∧ ∀ p, H p = none → Q (.ref p) (upd H p o)
def NewL (o : HO) (Q : VK) (H : Hp) : Prop := ∀ p, H p = none → Q (.ref p) (upd H p o)
section
variable {σ : L2.St} {H : Hp} {K : PySem.W.Frag} {Q : VK} {tr : TA} {a : Addr} {xs ys : List V} {o : HO} {n : Nat} {te : L2.St → Hp → (Int → Int → Hp → Prop) → Prop} {lo hi : Option Int}
theorem new_q {R : Hp → Prop} {p : Addr} {o : HO} (np : H p = none) (q : ∀ H2, Same H H2 → H2 p = some o → R H2) : R (upd H p o) := q _ (fun a u e => by rw [upd_ne (ne_of_none e np)]; exact e) upd_same
theorem rd_newL (q : ∀ H2 p, Same H H2 → H p = none → H2 p = some o → Q (.ref p) H2) : NewL o Q H := fun p np => new_q (R := fun H => Q (.ref p) H) np fun H2 S h => q H2 p S np h
theorem rd_newQ (hn : n ≤ 1000) (q : ∀ H2 p, Same H H2 → H p = none → H2 p = some o → Q (.ref p) H2) : New o n Q H := ⟨Nat.le_of_lt (small1000 hn), rd_newL q⟩
theorem rd_tupN (q : tr σ H fun xs H1 => New (.tup xs) xs.length Q H1) : tTup tr σ H Q := q
theorem rd_lstN (q : tr σ H fun xs H1 => New (.lst xs) xs.length Q H1) : tLst tr σ H Q := q
theorem rd_lstLN (h : H a = some (.lst xs)) (q : NewL (.lst xs) Q H) : rLstQ K [.ref a] H Q := ⟨a, xs, rfl, .inl (SqL.of h), q⟩
theorem rd_lstTN (h : H a = some (.tup xs)) (q : NewL (.lst xs) Q H) : rLstQ K [.ref a] H Q := ⟨a, xs, rfl, .inr (SqT.of h), q⟩
theorem rd_tupLN (h : H a = some (.lst xs)) (q : NewL (.tup xs) Q H) : rTupQ K [.ref a] H Q := ⟨a, xs, rfl, SqL.of h, q⟩
theorem rd_lstRgN (q : te σ H fun a b H1 => RgOk a b ∧ NewL (.lst (rgV a b)) Q H1) : tLstRg te σ H Q := q
theorem rd_tupRgN (q : te σ H fun a b H1 => RgOk a b ∧ NewL (.tup (rgV a b)) Q H1) : tTupRg te σ H Q := q
theorem rd_rgL (k : Nat) (hk : k ≤ 1000) (q : NewL (.lst ((own k).map V.int)) Q H) : RgOk 0 (k : Int) ∧ NewL (.lst (rgV 0 (k : Int))) Q H := ⟨RgOk.of_le (by decide) (by omega) (by decide) (by omega), by rw [rg_own]; exact q⟩
theorem rd_rgT (k : Nat) (hk : k ≤ 1000) (q : NewL (.tup ((own k).map V.int)) Q H) : RgOk 0 (k : Int) ∧ NewL (.tup (rgV 0 (k : Int))) Q H := ⟨RgOk.of_le (by decide) (by omega) (by decide) (by omega), by rw [rg_own]; exact q⟩
theorem rd_slLN (h : H a = some (.lst xs)) (q : NewL (.lst (cutV xs lo hi)) Q H) : rSlL K (.ref a) lo hi H Q := ⟨a, xs, rfl, SqL.of h, q⟩
theorem rd_catLN {b : Addr} (h : H a = some (.lst xs)) (h2 : H b = some (.lst ys)) (hl : xs.length + ys.length ≤ 1000) (q : NewL (.lst (xs ++ ys)) Q H) : rCat (.ref a) (.ref b) H Q := rd_catL h h2 hl q
end
/-! dicts by whole numbers -/
def DG (x y : V) (H : Hp) (Q : VK) : Prop := ∃ a v, x = .ref a ∧ DGet H a y (some v) ∧ Q v H
def DP (x y v : V) (H : Hp) (R : Hp → Prop) : Prop := ∃ a H4, x = .ref a ∧ DPut H a y v H4 ∧ R H4
theorem rd_dnew {σ : L2.St} {H : Hp} {Q : VK} (q : NewL (.dK []) Q H) : tDNewK σ H Q := q
theorem rd_dget {σ : L2.St} {H : Hp} {Q : VK} {td ty : TE} (q : td σ H fun x H1 => ty σ H1 fun y H2 => DG x y H2 Q) : tDGet td ty σ H Q := q
theorem rd_dput {σ : L2.St} {H : Hp} {D : Ends} {td ty tv : TE} (q : tv σ H fun v H1 => td σ H1 fun x H2 => ty σ H2 fun y H3 => DP x y v H3 fun H4 => D.nx σ H4) : sDPut td ty tv D σ H := q
theorem rd_DG {H : Hp} {Q : VK} {a : Addr} {k : Int} {v : V} {kvs : List (Key × V)} (h : H a = some (.dK kvs)) (e : valV kvs (Sum.inl k) = some v) (q : Q v H) : DG (.ref a) (.int k) H Q := ⟨a, v, rfl, by have z := DGet.k (k := Sum.inl k) h; rw [e] at z; exact z, q⟩
theorem rd_DP {H : Hp} {R : Hp → Prop} {a : Addr} {k : Int} {v : V} {kvs : List (Key × V)} (h : H a = some (.dK kvs)) (hl : kvs.length < 1000) (q : R (upd H a (.dK (putK kvs (Sum.inl k) v)))) : DP (.ref a) (.int k) v H R := ⟨a, _, rfl, DPut.k (k := Sum.inl k) h (small1000 (by omega)), q⟩
theorem putK_len1 (c : List (Key × V)) (k : Key) (x : V) : (putK c k x).length ≤ c.length + 1 := by
  unfold putK
  split
  · rw [List.length_map]
    omega
  · rw [List.length_append]
    exact Nat.le_refl _
/-! the box -/
def bxL (b c : Addr) (ns : List Int) (n : b ≠ c) : Box where
  b := b
  m := [b]
  fp := [b, c]
  I H := H c = some (.lst (ns.map V.int)) ∧ ∃ i bu tu mx ho : Int, H b = some (.lst [.ref c, .int i, .int bu, .int tu, .int mx, .int ho]) ∧ 0 ≤ i
  sub a ha := by
    rw [List.mem_singleton.mp ha]
    exact List.mem_cons_self ..
  live H i a ha := by
    obtain ⟨h1, _, _, _, _, _, h2, _⟩ := i
    rcases List.mem_cons.mp ha with rfl | k
    · exact ⟨_, h2⟩
    · rw [List.mem_singleton.mp k]
      exact ⟨_, h1⟩
  frame H H' i k := by
    obtain ⟨h1, a1, a2, a3, a4, a5, h2, h3⟩ := i
    exact ⟨by rw [k c (by simp)]; exact h1, a1, a2, a3, a4, a5, by rw [k b (by simp)]; exact h2, h3⟩
def IsBox (B : Box) : Prop := ∃ b c ns n, B = bxL b c ns n
theorem bxL_put {b c : Addr} {ns : List Int} {n : b ≠ c} {H0 H : Hp} {i bu tu mx ho : Int} (w : Wg (bxL b c ns n) H0 H) (h0 : 0 ≤ i) : Wg (bxL b c ns n) H0 (upd H b (.lst [.ref c, .int i, .int bu, .int tu, .int mx, .int ho])) :=
  ⟨fun a o ha e => by
    have nb : a ≠ b := fun z => ha (by rw [z]; exact List.mem_singleton.mpr rfl)
    rw [upd_ne nb]
    exact w.keep a o ha e, w.i0, by
    obtain ⟨h1, _⟩ := w.i1
    exact ⟨by rw [upd_ne n.symm]; exact h1, i, bu, tu, mx, ho, upd_same, h0⟩⟩
/-! orders of the blocks -/
theorem own_mem {n : Nat} {x : Int} : x ∈ own n ↔ 0 ≤ x ∧ x < n := by
  unfold own
  rw [List.mem_map]
  constructor
  · rintro ⟨k, hk, rfl⟩
    have := List.mem_range.mp hk
    omega
  · rintro ⟨h0, h1⟩
    exact ⟨x.toNat, List.mem_range.mpr (by omega), by omega⟩
theorem own_getD {n : Nat} {x : Int} (h0 : 0 ≤ x) (h1 : x < n) : (own n).getD x.toNat 0 = x := by
  unfold own
  rw [List.getD_eq_getElem?_getD, List.getElem?_map, List.getElem?_range (by omega)]
  show ((x.toNat : Nat) : Int) = x
  omega
theorem own_nodup (n : Nat) : (own n).Nodup := by
  unfold own
  exact List.Pairwise.map _ (fun a b h => by omega) List.nodup_range
theorem erase_map {α β : Type} (f : α → β) : ∀ (ls : List α) (d : Nat), (ls.map f).eraseIdx d = (ls.eraseIdx d).map f
  | [], _ => rfl
  | x :: r, 0 => rfl
  | x :: r, d + 1 => congrArg (f x :: ·) (erase_map f r d)
theorem perm_out {α : Type} : ∀ (ls : List α) (d : Nat) (h : d < ls.length), (ls[d] :: ls.eraseIdx d).Perm ls
  | x :: r, 0, _ => List.Perm.refl _
  | x :: r, d + 1, h => by
    have ih := perm_out r d (by simpa using h)
    have hd : d < r.length := by simpa using h
    show (r[d] :: x :: r.eraseIdx d).Perm (x :: r)
    exact (List.Perm.swap _ _ _).trans (List.Perm.cons x ih)
theorem perm_step {ls os : List Int} {d : Nat} (h : d < ls.length) : (ls.eraseIdx d ++ (os ++ [ls[d]])).Perm (ls ++ os) := by
  have p1 : (ls[d] :: ls.eraseIdx d).Perm ls := perm_out ls d h
  have p2 : (ls.eraseIdx d ++ (os ++ [ls[d]])).Perm (ls[d] :: (ls.eraseIdx d ++ os)) := by
    rw [← List.append_assoc]
    exact List.perm_append_singleton _ _
  exact p2.trans (List.Perm.append_right os p1)
structure Ord (n : Nat) (os : List Int) : Prop where
  perm : os.Perm (own n)
theorem Ord.len {n : Nat} {os : List Int} (o : Ord n os) : os.length = n := o.perm.length_eq.trans (own_len n)
theorem Ord.in_ {n : Nat} {os : List Int} (o : Ord n os) {k : Nat} (h : k < os.length) : 0 ≤ os[k] ∧ os[k] < n := own_mem.mp (o.perm.mem_iff.mp (List.getElem_mem h))
theorem Ord.ne {n : Nat} {os : List Int} (o : Ord n os) {j k : Nat} (hj : j < os.length) (hk : k < os.length) (ne : j ≠ k) : os[j] ≠ os[k] := fun e => by
  have nd : os.Nodup := o.perm.nodup_iff.mpr (own_nodup n)
  have pw := List.pairwise_iff_getElem.mp nd
  rcases Nat.lt_or_ge j k with z | z
  · exact pw j k hj hk z e
  · exact pw k j hk hj (by omega) e.symm
theorem Ord.pair {n : Nat} {os : List Int} (o : Ord n os) {j k : Nat} (hj : j < os.length) (hk : k < os.length) (ne : j ≠ k) : PairOk n (os[j], os[k]) :=
  ⟨(o.in_ hj).1, (o.in_ hj).2, (o.in_ hk).1, (o.in_ hk).2, o.ne hj hk ne⟩
/-- a list of pairs that grows -/
structure Lg (H : Hp) (l : Addr) (n : Nat) (as : List Addr) (ps : List (Int × Int)) : Prop where
  at_ : H l = some (.lst (as.map V.ref))
  t : TupsAt H as (pvs ps)
  ok : ∀ p ∈ ps, PairOk n p
section
variable {H H' : Hp} {l D : Addr} {n : Nat} {as : List Addr} {ps : List (Int × Int)} {p : Int × Int}
theorem Lg.len (L : Lg H l n as ps) : as.length = ps.length := L.t.1.trans (pvs_len ps)
theorem Lg.nil (h : H l = some (.lst [])) : Lg H l n [] [] := ⟨h, TupsAt.nil, fun p hp => absurd hp List.not_mem_nil⟩
theorem Lg.same (L : Lg H l n as ps) (S : Same H H') : Lg H' l n as ps := ⟨S _ _ L.at_, L.t.same S, L.ok⟩
theorem Lg.wg {B : Box} (L : Lg H l n as ps) (nl : l ∉ B.m) (w : Wg B H H') : Lg H' l n as ps := ⟨w.lst nl L.at_, L.t.wg w, L.ok⟩
/-- another list is changed -/
theorem Lg.mut (L : Lg H l n as ps) {q : Addr} {xs : List V} {o : HO} (h : H q = some (.lst xs)) (ne : l ≠ q) : Lg (upd H q o) l n as ps := ⟨by rw [upd_ne ne]; exact L.at_, L.t.kt (Kt.mut h), L.ok⟩
theorem Lg.mutD (L : Lg H l n as ps) {q : Addr} {kvs : List (Key × V)} {o : HO} (h : H q = some (.dK kvs)) (ne : l ≠ q) : Lg (upd H q o) l n as ps := ⟨by rw [upd_ne ne]; exact L.at_, L.t.kt (fun a ys e => by
  rw [upd_ne (ne_of e h (by intro z; cases z))]
  exact e), L.ok⟩
theorem Lg.add (L : Lg H l n as ps) (hD : H D = some (.tup (pv p))) (ok : PairOk n p) : Lg (upd H l (.lst (as.map V.ref ++ [.ref D]))) l n (as ++ [D]) (ps ++ [p]) :=
  ⟨by rw [upd_same, List.map_append]; rfl, by rw [pvs_app]; exact (L.t.app hD).kt (Kt.mut L.at_), fun q hq => by
    rcases List.mem_append.mp hq with k | k
    · exact L.ok q k
    · rw [List.mem_singleton.mp k]
      exact ok⟩
theorem Lg.get (L : Lg H l n as ps) {i : Nat} (hi : i < ps.length) : ∃ p, as[i]? = some p ∧ H p = some (.tup (pv ps[i])) := by
  obtain ⟨p, e, h⟩ := L.t.get (i := i) (by rw [pvs_len]; exact hi)
  have er : (pvs ps)[i]'(by rw [pvs_len]; exact hi) = pv ps[i] := by simp [pvs]
  rw [er] at h
  exact ⟨p, e, h⟩
theorem Lg.yes (L : Lg H l n as ps) : LogAt H l n ps := ⟨⟨as, L.at_, L.t⟩, L.ok⟩
theorem TupsAt.cat {H : Hp} {xs ys : List (List V)} {as bs : List Addr} (t : TupsAt H as xs) (u : TupsAt H bs ys) : TupsAt H (as ++ bs) (xs ++ ys) := ⟨by rw [List.length_append, List.length_append, t.1, u.1], fun i us e => by
  by_cases z : i < xs.length
  · rw [List.getElem?_append_left z] at e
    obtain ⟨p, e1, e2⟩ := t.2 i us e
    exact ⟨p, by rw [List.getElem?_append_left (by rw [t.1]; exact z)]; exact e1, e2⟩
  · rw [List.getElem?_append_right (by omega)] at e
    obtain ⟨p, e1, e2⟩ := u.2 _ us e
    exact ⟨p, by rw [List.getElem?_append_right (by rw [t.1]; omega), t.1]; exact e1, e2⟩⟩
theorem tups_ins {H : Hp} {D : Addr} {vs : List V} {vss : List (List V)} {as : List Addr} (t : TupsAt H as vss) (hD : H D = some (.tup vs)) (k : Nat) : TupsAt H (as.take k ++ [D] ++ as.drop k) (vss.take k ++ [vs] ++ vss.drop k) := by
  have a1 := (t.take k).app hD
  have a2 := t.drop k
  have hl := a1.1
  refine ⟨by rw [List.length_append, hl, a2.1, ← List.length_append], fun i us e => ?_⟩
  by_cases z : i < (vss.take k ++ [vs]).length
  · rw [List.getElem?_append_left z] at e
    obtain ⟨p, e1, e2⟩ := a1.2 i us e
    exact ⟨p, by rw [List.getElem?_append_left (by rw [hl]; exact z)]; exact e1, e2⟩
  · rw [List.getElem?_append_right (by omega)] at e
    obtain ⟨p, e1, e2⟩ := a2.2 _ us e
    exact ⟨p, by rw [List.getElem?_append_right (by rw [hl]; omega), hl]; exact e1, e2⟩
theorem Lg.ins (L : Lg H l n as ps) (hD : H D = some (.tup (pv p))) (ok : PairOk n p) (k : Nat) : Lg (upd H l (.lst ((as.map V.ref).take k ++ [.ref D] ++ (as.map V.ref).drop k))) l n (as.take k ++ [D] ++ as.drop k) (ps.take k ++ [p] ++ ps.drop k) :=
  ⟨by rw [upd_same, List.map_append, List.map_append, List.map_take, List.map_drop]; rfl, by
    have z := (tups_ins L.t hD k).kt (Kt.mut (o := .lst ((as.map V.ref).take k ++ [.ref D] ++ (as.map V.ref).drop k)) L.at_)
    unfold pvs at z ⊢
    rw [List.map_append, List.map_append, List.map_take, List.map_drop]
    exact z, fun q hq => by
    rcases List.mem_append.mp hq with k1 | k1
    · rcases List.mem_append.mp k1 with k2 | k2
      · exact L.ok q (List.mem_of_mem_take k2)
      · rw [List.mem_singleton.mp k2]
        exact ok
    · exact L.ok q (List.mem_of_mem_drop k1)⟩
end
theorem Lg.sub {H : Hp} {l l2 : Addr} {n : Nat} {as : List Addr} {ps : List (Int × Int)} (L : Lg H l n as ps) {f k : Nat} (h : H l2 = some (.lst (((as.map V.ref).drop f).take k))) : Lg H l2 n ((as.drop f).take k) ((ps.drop f).take k) :=
  ⟨by rw [List.map_take, List.map_drop]; exact h, by
    have z := (L.t.drop f).take k
    unfold pvs at z ⊢
    rw [List.map_take, List.map_drop]
    exact z, fun p hp => L.ok p (List.mem_of_mem_drop (List.mem_of_mem_take hp))⟩
theorem cut_both {xs : List V} {a b : Nat} (h : a ≤ xs.length) : ∃ k, k ≤ b ∧ cutV xs (some (a : Int)) (some ((a + b : Nat) : Int)) = (xs.drop a).take k := by
  unfold cutV
  rw [HT.sIx_nat, HT.sIx_nat, Nat.min_eq_left h]
  exact ⟨_, by omega, rfl⟩
theorem dp_deck {K : PySem.W.Frag} {H : Hp} {D : Addr} {bs : List Addr} {ps : List (Int × Int)} (h : H D = some (.lst (bs.map V.ref))) (t : TupsAt H bs (rows (lns ps))) : Dp K H (.ref D) (.list ((lns ps).map lnD)) := .lst (SqL.of h) (dp_rows _ _ t)
theorem sh_deck (ps : List (Int × Int)) : Sh 2 (.list ((lns ps).map lnD)) := Sh.list fun d hd => by
  obtain ⟨r, hr, rfl⟩ := List.mem_map.mp hd
  obtain ⟨p, _, rfl⟩ := List.mem_map.mp hr
  refine Sh.tuple fun e he => ?_
  simp only [cl, List.mem_cons, List.not_mem_nil, or_false] at he
  rcases he with rfl | rfl | rfl | rfl
  · exact Sh.str (by decide +kernel)
  · exact Sh.int _
  · exact Sh.int _
  · exact Sh.str (by decide +kernel)
theorem yes_deck {H : Hp} {D : Addr} {n : Nat} {bs : List Addr} {ps : List (Int × Int)} (h : H D = some (.lst (bs.map V.ref))) (t : TupsAt H bs (rows (lns ps))) (ok : ∀ p ∈ ps, PairOk n p) (l60 : ps.length ≤ 60) : ScrYes H n (.ref D) (lns ps) :=
  ⟨D, bs, rfl, h, t, by rw [lns_len]; exact l60, lns_ok ok⟩
theorem cut_last {xs : List V} {k : Nat} (h : k ≤ xs.length) (h0 : 0 < k) : cutV xs (some (-(k : Int))) none = (xs.drop (xs.length - k)).take k := by
  unfold cutV
  have e : HT.sIx xs.length 0 (some (-(k : Int))) = xs.length - k := by
    show (if -(k : Int) < 0 then (-(k : Int) + (xs.length : Int)).toNat else min (-(k : Int)).toNat xs.length) = _
    rw [if_pos (by omega)]
    omega
  rw [HT.sIx_none, e]
  congr 1
  omega
def LogP (n k : Nat) (B : Box) (H : Hp) (Q : VK) : Prop := ∀ H' D as ps, Wg B H H' → H D = none → Lg H' D n as ps → ps.length ≤ k → Q (.ref D) H'
theorem ints_set {ws : List Int} {j : Nat} {x : Int} : (ws.map V.int).set j (.int x) = (ws.set j x).map V.int := by rw [List.map_set]
end Rv
/-! items of scripts that are made wrong: their data, their marks -/
namespace Rv
open PySem PySem.Spec PyProof.Rows L2
theorem SqT.sm {K : PySem.W.Frag} {H H' : Hp} {a : Addr} {xs : List V} (S : Same H H') (h : SqT K H a xs) : SqT K H' a xs := h.imp (fun z => z.imp (fun y => S _ _ y) fun ⟨o, y⟩ => ⟨o, S _ _ y⟩) id
mutual
theorem Dp.sm {K : PySem.W.Frag} {H H' : Hp} (S : Same H H') : ∀ {v : V} {d : PyData}, Dp K H v d → Dp K H' v d
  | _, _, .non => .non
  | _, _, .bl b => .bl b
  | _, _, .int i => .int i
  | _, _, .str x => .str x
  | _, _, .lst h k => .lst (Same.seq S h) (DpAll.sm S k)
  | _, _, .tup h k => .tup (SqT.sm S h) (DpAll.sm S k)
theorem DpAll.sm {K : PySem.W.Frag} {H H' : Hp} (S : Same H H') : ∀ {vs : List V} {ds : List PyData}, DpAll K H vs ds → DpAll K H' vs ds
  | _, _, .nil => .nil
  | _, _, .cons h k => .cons (Dp.sm S h) (DpAll.sm S k)
end
theorem DpAll.at {K : PySem.W.Frag} {H : Hp} : ∀ {vs : List V} {ds : List PyData}, vs.length = ds.length → (∀ (i : Nat) v d, vs[i]? = some v → ds[i]? = some d → Dp K H v d) → DpAll K H vs ds
  | [], [], _, _ => .nil
  | v :: vs, d :: ds, h, k => .cons (k 0 v d rfl rfl) (DpAll.at (by simpa using h) fun i v d e1 e2 => k (i + 1) v d e1 e2)
  | [], _ :: _, h, _ => by simp at h
  | _ :: _, [], h, _ => by simp at h
/-! fields of items -/
def fld : V → PyData
  | .int i => .int i
  | .str s => .str s
  | _ => .none
def FlV (x : V) : Prop := (∃ i : Int, x = .int i) ∨ ∃ cs, x = .str (txt cs) ∧ ∀ c ∈ cs, c < 128
def Fl : Im → Prop
  | .tup xs => ∀ x ∈ xs, FlV x
  | .lst xs => ∀ x ∈ xs, FlV x
  | .non => True
def imD : Im → PyData
  | .tup xs => .tuple (xs.map fld)
  | .lst xs => .list (xs.map fld)
  | .non => .none
theorem dp_flds {K : PySem.W.Frag} {H : Hp} : ∀ {xs : List V}, (∀ x ∈ xs, FlV x) → DpAll K H xs (xs.map fld)
  | [], _ => .nil
  | x :: r, h => by
    refine .cons ?_ (dp_flds fun y hy => h y (List.mem_cons_of_mem _ hy))
    rcases h x (List.mem_cons_self ..) with ⟨i, rfl⟩ | ⟨cs, rfl, _⟩
    · exact .int i
    · exact .str _
theorem sh_flds {xs : List V} (h : ∀ x ∈ xs, FlV x) : ∀ d ∈ xs.map fld, Sh 0 d := fun d hd => by
  obtain ⟨x, hx, rfl⟩ := List.mem_map.mp hd
  rcases h x hx with ⟨i, rfl⟩ | ⟨cs, rfl, hc⟩
  · exact Sh.int i
  · exact Sh.str (strOk_txt hc)
theorem dp_im {K : PySem.W.Frag} {M : List Addr} {H : Hp} {v : V} {it : Im} (h : ImAt M H v it) (f : Fl it) : Dp K H v (imD it) := by
  cases it with
  | tup xs =>
    obtain ⟨p, rfl, e⟩ := h
    exact .tup (SqT.of e) (dp_flds f)
  | lst xs =>
    obtain ⟨p, rfl, _, e⟩ := h
    exact .lst (SqL.of e) (dp_flds f)
  | non =>
    obtain rfl : v = .non := h
    exact .non
theorem sh_im {it : Im} (f : Fl it) : Sh 1 (imD it) := by
  cases it with
  | tup xs => exact Sh.tuple (sh_flds f)
  | lst xs => exact Sh.list (sh_flds f)
  | non => exact Sh.non
theorem dp_ims {K : PySem.W.Frag} {M : List Addr} {H : Hp} {vs : List V} {is : List Im} (h : ImsAt M H vs is) (f : ∀ it ∈ is, Fl it) : DpAll K H vs (is.map imD) :=
  DpAll.at (by rw [h.len, List.length_map]) fun i v d e1 e2 => by
    rw [List.getElem?_map] at e2
    cases e3 : is[i]? with
    | none => rw [e3] at e2; cases e2
    | some it =>
      rw [e3] at e2
      cases e2
      obtain ⟨v2, e4, h2⟩ := h.at_ i it e3
      rw [e1] at e4
      cases e4
      exact dp_im h2 (f it (List.mem_of_getElem? e3))
theorem sh_ims {is : List Im} (f : ∀ it ∈ is, Fl it) : ∀ d ∈ is.map imD, Sh 1 d := fun d hd => by
  obtain ⟨it, hi, rfl⟩ := List.mem_map.mp hd
  exact sh_im (f it hi)
theorem fl_vals {n : Nat} {r : Ln} (ok : LnOk n r) : Fl (.tup r.vals) := fun x hx => by
  unfold Ln.vals at hx
  simp only [List.mem_cons, List.not_mem_nil, or_false] at hx
  rcases hx with rfl | rfl | rfl | rfl
  · have hw : ∃ cs, r.w = txt cs ∧ ∀ c ∈ cs, c < 128 := by
      rcases ok.word with ⟨e, _⟩ | ⟨e | e, _⟩
      · exact ⟨[99, 108, 101, 97, 114], e, by decide⟩
      · exact ⟨[99, 111, 112, 121], e, by decide⟩
      · exact ⟨[109, 111, 118, 101], e, by decide⟩
    obtain ⟨cs, e, h⟩ := hw
    exact .inr ⟨cs, by rw [e], h⟩
  · exact .inl ⟨_, rfl⟩
  · exact .inl ⟨_, rfl⟩
  · exact .inr ⟨_, rfl, fun c hc => by have := ok.gs c hc; unfold Sign at this; omega⟩
theorem wf_vals {n : Nat} {r : Ln} (ok : LnOk n r) (n12 : n ≤ 12) : Wf (.tup r.vals) := fun _ => ⟨r, rfl, by have := ok.gle; omega⟩
/-- no line -/
structure BadI (n : Nat) (it : Im) : Prop where
  wf : Wf it
  fl : Fl it
  no : ¬ Good n it
theorem badLn {n : Nat} {w : Str} {t o : Int} {g ws : List Nat} (hw : w = txt ws) (ha : ∀ c ∈ ws, c < 128) (gl : g.length ≤ 1000) (gc : ∀ c ∈ g, c < 128) (no : ¬ LnOk n ⟨w, t, o, g⟩) : BadI n (.tup [.str w, .int t, .int o, .str (txt g)]) :=
  ⟨fun _ => ⟨⟨w, t, o, g⟩, rfl, gl⟩, fun x hx => by
    simp only [List.mem_cons, List.not_mem_nil, or_false] at hx
    rcases hx with rfl | rfl | rfl | rfl
    · exact .inr ⟨ws, by rw [hw], ha⟩
    · exact .inl ⟨_, rfl⟩
    · exact .inl ⟨_, rfl⟩
    · exact .inr ⟨g, rfl, gc⟩, fun z => no (good_vals.mp z)⟩
/-- what a def hands over: new, if it is a list -/
def ImNew (H H' : Hp) (v : V) : Im → Prop
  | .tup xs => ∃ p, v = .ref p ∧ H' p = some (.tup xs)
  | .lst xs => ∃ p, v = .ref p ∧ H p = none ∧ H' p = some (.lst xs)
  | .non => v = .non
theorem ImNew.at_ {M : List Addr} {H H' : Hp} {v : V} {it : Im} (h : ImNew H H' v it) (live : ∀ a ∈ M, H a ≠ none) : ImAt M H' v it := by
  cases it with
  | tup xs => exact h
  | lst xs =>
    obtain ⟨p, e, np, h⟩ := h
    exact ⟨p, e, fun z => live p z np, h⟩
  | non => exact h
theorem ImNew.same {H H' H2 : Hp} {v : V} {it : Im} (h : ImNew H H' v it) (S : Same H' H2) : ImNew H H2 v it := by
  cases it with
  | tup xs =>
    obtain ⟨p, e, h⟩ := h
    exact ⟨p, e, S _ _ h⟩
  | lst xs =>
    obtain ⟨p, e, np, h⟩ := h
    exact ⟨p, e, np, S _ _ h⟩
  | non => exact h
/-! marks: 0 a plain copy, 1 another line, 2 no line -/
inductive Mk (n : Nat) : Im → Int → Prop
  | plain {p : Int × Int} (ok : PairOk n p) : Mk n (.tup (cl p).vals) 0
  | other {r : Ln} (ok : LnOk n r) (np : ¬ Plain r) : Mk n (.tup r.vals) 1
  | bad {it : Im} (b : BadI n it) : Mk n it 2
theorem Mk.wf {n : Nat} {it : Im} {m : Int} (n12 : n ≤ 12) : Mk n it m → Wf it
  | .plain ok => wf_vals ok.ln n12
  | .other ok _ => wf_vals ok n12
  | .bad b => b.wf
theorem Mk.fl {n : Nat} {it : Im} {m : Int} : Mk n it m → Fl it
  | .plain ok => fl_vals ok.ln
  | .other ok _ => fl_vals ok
  | .bad b => b.fl
theorem Mk.two {n : Nat} {it : Im} {m : Int} (h : Mk n it m) (e : m = 2) : ¬ Good n it := by
  cases h with
  | plain ok => exact absurd e (by decide)
  | other ok np => exact absurd e (by decide)
  | bad b => exact b.no
theorem Mk.not2 {n : Nat} {it : Im} {m : Int} (h : Mk n it m) (e : m ≠ 2) : Good n it := by
  cases h with
  | plain ok => exact ⟨_, rfl, ok.ln⟩
  | other ok np => exact ⟨_, rfl, ok⟩
  | bad b => exact absurd rfl e
def Mks (n : Nat) (is : List Im) (ms : List Int) : Prop := is.length = ms.length ∧ ∀ (i : Nat) it m, is[i]? = some it → ms[i]? = some m → Mk n it m
theorem ins_get {α : Type} {xs : List α} {x : α} {k i : Nat} (hk : k ≤ xs.length) : (xs.take k ++ [x] ++ xs.drop k)[i]? = if i < k then xs[i]? else if i = k then some x else xs[i - 1]? := by
  have lt : (xs.take k).length = k := by rw [List.length_take]; omega
  by_cases h1 : i < k
  · rw [if_pos h1, List.append_assoc, List.getElem?_append_left (by omega), List.getElem?_take_of_lt h1]
  · rw [if_neg h1]
    by_cases h2 : i = k
    · rw [if_pos h2, List.getElem?_append_left (by rw [List.length_append, lt, List.length_singleton]; omega), List.getElem?_append_right (by omega), lt, h2, Nat.sub_self]
      rfl
    · rw [if_neg h2, List.getElem?_append_right (by rw [List.length_append, lt, List.length_singleton]; omega), List.length_append, lt, List.length_singleton, List.getElem?_drop]
      congr 1
      omega
theorem ins_len {α : Type} {xs : List α} {x : α} {k : Nat} (hk : k ≤ xs.length) : (xs.take k ++ [x] ++ xs.drop k).length = xs.length + 1 := by
  rw [List.length_append, List.length_append, List.length_take, List.length_drop, List.length_singleton]
  omega
theorem Mks.ins {n : Nat} {is : List Im} {ms : List Int} (h : Mks n is ms) {it : Im} {m : Int} (b : Mk n it m) {k : Nat} (hk : k ≤ is.length) : Mks n (is.take k ++ [it] ++ is.drop k) (ms.take k ++ [m] ++ ms.drop k) := by
  have hk2 : k ≤ ms.length := by rw [← h.1]; exact hk
  refine ⟨by rw [ins_len hk, ins_len hk2, h.1], fun i a c e1 e2 => ?_⟩
  rw [ins_get hk] at e1
  rw [ins_get hk2] at e2
  by_cases h1 : i < k
  · rw [if_pos h1] at e1 e2
    exact h.2 i a c e1 e2
  · rw [if_neg h1] at e1 e2
    by_cases h2 : i = k
    · rw [if_pos h2] at e1 e2
      cases e1
      cases e2
      exact b
    · rw [if_neg h2] at e1 e2
      exact h.2 _ a c e1 e2
theorem ImsAt.ins {M : List Addr} {H : Hp} {vs : List V} {is : List Im} (h : ImsAt M H vs is) {v : V} {it : Im} (b : ImAt M H v it) {k : Nat} (hk : k ≤ is.length) : ImsAt M H (vs.take k ++ [v] ++ vs.drop k) (is.take k ++ [it] ++ is.drop k) := by
  have hk2 : k ≤ vs.length := by rw [h.len]; exact hk
  refine ⟨by rw [ins_len hk, ins_len hk2, h.len], fun i a e1 => ?_⟩
  rw [ins_get hk] at e1
  rw [ins_get hk2]
  by_cases h1 : i < k
  · rw [if_pos h1] at e1 ⊢
    exact h.at_ i a e1
  · rw [if_neg h1] at e1 ⊢
    by_cases h2 : i = k
    · rw [if_pos h2] at e1 ⊢
      cases e1
      exact ⟨v, rfl, b⟩
    · rw [if_neg h2] at e1 ⊢
      exact h.at_ _ a e1
theorem first_ix {k : Int} : ∀ {ns : List Int}, k ∈ ns → ∃ j : Nat, ns[j]? = some k ∧ ∀ m : Nat, m < j → ns[m]? ≠ some k
  | [], h => absurd h List.not_mem_nil
  | x :: r, h => by
    by_cases e : x = k
    · exact ⟨0, by rw [e]; rfl, fun m hm => absurd hm (Nat.not_lt_zero m)⟩
    · obtain ⟨j, h1, h2⟩ := first_ix (ns := r) (by
        rcases List.mem_cons.mp h with z | z
        · exact absurd z.symm e
        · exact z)
      refine ⟨j + 1, h1, fun m hm => ?_⟩
      cases m with
      | zero => exact fun z => e (Option.some.inj z)
      | succ m => exact h2 m (by omega)
/-- where no mark is 2, the items are lines -/
theorem Mks.lines {n : Nat} : ∀ {is : List Im} {ms : List Int}, Mks n is ms → 2 ∉ ms → ∃ rs : List Ln, is = rs.map (fun r => .tup r.vals) ∧ (∀ r ∈ rs, LnOk n r) ∧ ∀ (i : Nat) r m, rs[i]? = some r → ms[i]? = some m → (m = 0 ∧ Plain r) ∨ (m = 1 ∧ ¬ Plain r)
  | [], _, _, _ => ⟨[], rfl, fun r h => absurd h List.not_mem_nil, fun i r m e => by simp at e⟩
  | it :: is, [], h, _ => by
    have := h.1
    simp at this
  | it :: is, m :: ms, h, no => by
    have h0 := h.2 0 it m rfl rfl
    obtain ⟨rs, e, ok, pl⟩ := Mks.lines (is := is) (ms := ms) ⟨by simpa using h.1, fun i a c e1 e2 => h.2 (i + 1) a c e1 e2⟩ (fun z => no (List.mem_cons_of_mem _ z))
    have fin : ∀ r : Ln, it = .tup r.vals → LnOk n r → ((m = 0 ∧ Plain r) ∨ (m = 1 ∧ ¬ Plain r)) → ∃ rs : List Ln, it :: is = rs.map (fun r => .tup r.vals) ∧ (∀ r ∈ rs, LnOk n r) ∧ ∀ (i : Nat) r k, rs[i]? = some r → (m :: ms)[i]? = some k → (k = 0 ∧ Plain r) ∨ (k = 1 ∧ ¬ Plain r) := fun r e0 ok0 p0 => by
      refine ⟨r :: rs, by rw [List.map_cons, ← e, ← e0], fun a ha => ?_, fun i a k e1 e2 => ?_⟩
      · rcases List.mem_cons.mp ha with z | z
        · rw [z]
          exact ok0
        · exact ok a z
      · cases i with
        | zero =>
          cases e1
          cases e2
          exact p0
        | succ i => exact pl i a k e1 e2
    cases h0 with
    | @plain p ok => exact fin (cl p) rfl ok.ln (.inl ⟨rfl, rfl, rfl⟩)
    | @other r ok np => exact fin r rfl ok (.inr ⟨rfl, np⟩)
    | bad b => exact absurd (List.mem_cons_self ..) no
theorem ImsAt.tups {M : List Addr} {H : Hp} {vs : List V} {rs : List Ln} (h : ImsAt M H vs (rs.map fun r => .tup r.vals)) : ∃ as : List Addr, vs = as.map V.ref ∧ TupsAt H as (rows rs) := by
  have all : ∀ (i : Nat) v, vs[i]? = some v → ∃ p, v = .ref p := fun i v e => by
    have hi : i < rs.length := by
      have := (List.getElem?_eq_some_iff.mp e).1
      rw [h.len, List.length_map] at this
      exact this
    obtain ⟨v2, e2, p, e3, _⟩ := h.at_ i (.tup rs[i].vals) (by rw [List.getElem?_map, List.getElem?_eq_getElem hi]; rfl)
    rw [e] at e2
    cases e2
    exact ⟨p, e3⟩
  have mk : ∀ vs : List V, (∀ (i : Nat) v, vs[i]? = some v → ∃ p, v = .ref p) → ∃ as : List Addr, vs = as.map V.ref := fun vs => by
    induction vs with
    | nil => exact fun _ => ⟨[], rfl⟩
    | cons x r ih =>
      intro k
      obtain ⟨p, rfl⟩ := k 0 x rfl
      obtain ⟨as, rfl⟩ := ih fun i v e => k (i + 1) v e
      exact ⟨p :: as, rfl⟩
  obtain ⟨as, rfl⟩ := mk vs all
  have ln := h.len
  rw [List.length_map, List.length_map] at ln
  refine ⟨as, rfl, by rw [rows_len, ln], fun i xs e => ?_⟩
  unfold rows at e
  rw [List.getElem?_map] at e
  cases e2 : rs[i]? with
  | none => rw [e2] at e; cases e
  | some r =>
    rw [e2] at e
    cases e
    obtain ⟨v, e3, p, e4, hp⟩ := h.at_ i (.tup r.vals) (by rw [List.getElem?_map, e2]; rfl)
    rw [List.getElem?_map] at e3
    cases e5 : as[i]? with
    | none => rw [e5] at e3; cases e3
    | some q =>
      rw [e5] at e3
      have e6 : V.ref q = v := Option.some.inj e3
      rw [e4] at e6
      have e7 := V.ref.inj e6
      exact ⟨q, rfl, by rw [e7]; exact hp⟩
theorem ImAt.more {M : List Addr} {H : Hp} {v : V} {it : Im} {f : Addr} (h : ImAt M H v it) (nf : H f = none) : ImAt (f :: M) H v it := by
  cases it with
  | tup xs => exact h
  | lst xs =>
    obtain ⟨p, e, np, e2⟩ := h
    refine ⟨p, e, fun z => ?_, e2⟩
    rcases List.mem_cons.mp z with k | k
    · rw [k, nf] at e2
      cases e2
    · exact np k
  | non => exact h
theorem ImAt.moreL {M : List Addr} {H : Hp} {v : V} {it : Im} {f : Addr} (h : ImAt M H v it) (no : ∀ xs p, it = .lst xs → v = .ref p → p ≠ f) : ImAt (f :: M) H v it := by
  cases it with
  | tup xs => exact h
  | lst xs =>
    obtain ⟨p, e, np, e2⟩ := h
    refine ⟨p, e, fun z => ?_, e2⟩
    rcases List.mem_cons.mp z with k | k
    · exact no xs p rfl e k
    · exact np k
  | non => exact h
theorem ImsAt.more {M : List Addr} {H : Hp} {vs : List V} {is : List Im} {f : Addr} (h : ImsAt M H vs is) (nf : H f = none) : ImsAt (f :: M) H vs is := ⟨h.len, fun i it e => by
  obtain ⟨v, e1, e2⟩ := h.at_ i it e
  exact ⟨v, e1, e2.more nf⟩⟩
theorem ImsAt.wg {B : Box} {M : List Addr} {H H' : Hp} {vs : List V} {is : List Im} (h : ImsAt M H vs is) (w : Wg B H H') (hm : ∀ a ∈ B.m, a ∈ M) : ImsAt M H' vs is := h.keep (fun _ z => z) (fun a o n e => w.keep a o (fun z => n (hm a z)) e) (Kt.wg w)
/-- a list of M is changed -/
theorem ImsAt.chg {M : List Addr} {H : Hp} {vs xs : List V} {is : List Im} {f : Addr} {o : HO} (h : ImsAt M H vs is) (hf : H f = some (.lst xs)) (fm : f ∈ M) : ImsAt M (upd H f o) vs is := h.keep (fun _ z => z) (fun a u n e => by rw [upd_ne (fun z : a = f => n (by rw [z]; exact fm))]; exact e) (Kt.mut hf)
theorem ImAt.chg {M : List Addr} {H : Hp} {v : V} {xs : List V} {it : Im} {f : Addr} {o : HO} (h : ImAt M H v it) (hf : H f = some (.lst xs)) (fm : f ∈ M) : ImAt M (upd H f o) v it := h.keep (fun _ z => z) (fun a u n e => by rw [upd_ne (fun z : a = f => n (by rw [z]; exact fm))]; exact e) (Kt.mut hf)
theorem ImsAt.app {M : List Addr} {H : Hp} {vs : List V} {is : List Im} (h : ImsAt M H vs is) {v : V} {it : Im} (b : ImAt M H v it) : ImsAt M H (vs ++ [v]) (is ++ [it]) := by
  have z := h.ins b (k := is.length) (Nat.le_refl _)
  rw [List.take_of_length_le (Nat.le_refl _), List.drop_of_length_le (Nat.le_refl _), ← h.len, List.take_of_length_le (Nat.le_refl _), List.drop_of_length_le (Nat.le_refl _), List.append_nil, List.append_nil] at z
  exact z
theorem DpAll.app {K : PySem.W.Frag} {H : Hp} : ∀ {xs ys : List V} {ds es : List PyData}, DpAll K H xs ds → DpAll K H ys es → DpAll K H (xs ++ ys) (ds ++ es)
  | _, _, _, _, .nil, k => k
  | _, _, _, _, .cons h t, k => .cons h (DpAll.app t k)
theorem DpAll.rep {K : PySem.W.Frag} {H : Hp} {v : V} {d : PyData} (h : Dp K H v d) : ∀ m : Nat, DpAll K H (List.replicate m v) (List.replicate m d)
  | 0 => .nil
  | m + 1 => .cons h (DpAll.rep h m)
theorem sh_lnD {n : Nat} {p : Int × Int} (ok : PairOk n p) : Sh 1 (lnD (cl p)) := ⟨(lay_ln ok.ln).1, Nat.le_of_eq (lay_ln ok.ln).2⟩
theorem cut_most {xs : List V} (c : Nat) : ∃ k, k ≤ c ∧ k ≤ xs.length ∧ cutV xs none (some (c : Int)) = xs.take k := by
  unfold cutV
  rw [HT.sIx_none, HT.sIx_nat, List.drop_zero, Nat.sub_zero]
  exact ⟨min c xs.length, Nat.min_le_left .., Nat.min_le_right .., rfl⟩
theorem wordL : (if ("InvalidLine" : String) = "InvalidLine" then Str.ofString "line" else Str.ofString "plain") = Str.ofString "line" := rfl
/-! texts by multiplication, none among them -/
def rMulY : R2 := fun x y H Q => ∃ c n : Nat, x = .str (one c) ∧ y = .int n ∧ n ≤ 13 ∧ Q (.str (txt (List.replicate n c))) H
theorem op_mulY {X : Cx} : OpR X (binaryOp .Mult) rMulY := by
  intro pins s σ H x y v u Q I rx ry h
  obtain ⟨c, n, rfl, rfl, n13, q⟩ := h
  obtain ⟨t, rfl⟩ := rx
  obtain ⟨t', rfl⟩ := ry
  have l1 : (one c).length = 1 := rfl
  have hn : n = 0 ∨ n = 1 ∨ n = 2 ∨ n = 3 ∨ n = 4 ∨ n = 5 ∨ n = 6 ∨ n = 7 ∨ n = 8 ∨ n = 9 ∨ n = 10 ∨ n = 11 ∨ n = 12 ∨ n = 13 := by omega
  have ok : MulOk (one c) (n : Int) := by
    refine ⟨?_, fun z _ => ?_, fun _ _ => ?_⟩
    · rw [Bool.or_eq_false_iff]
      exact ⟨decide_eq_false (by omega), decide_eq_false (by omega)⟩
    · rw [l1]
      have : (1 : Int) ≤ (2 ^ 63 - 1) / (n : Int) := by
        rw [Int.le_ediv_iff_mul_le (by omega)]
        omega
      omega
    · rw [l1, Int.toNat_natCast, Nat.one_mul]
      rcases hn with k | k | k | k | k | k | k | k | k | k | k | k | k | k <;> rw [k] <;> decide
  have e : Txt.mul (one c) (n : Int) = txt (List.replicate n c) := by
    unfold Txt.mul
    by_cases k0 : n = 0
    · subst k0
      rfl
    · rw [if_neg (by omega)]
      by_cases k : n = 1
      · subst k
        rfl
      · have f : ((n : Int) == 1 || (one c).length == 0) = false := by
          rw [Bool.or_eq_false_iff]
          exact ⟨beq_eq_false_iff_ne.mpr (by omega), rfl⟩
        rw [f, if_neg Bool.false_ne_true, Int.toNat_natCast]
        refine TL.ext_tl ?_
        show ((List.replicate n (one c).cps).foldl (· ++ ·) #[]).toList = List.replicate n c
        rw [fold_reps]
        rfl
  refine SB.mul ok fun t2 k => ?_
  rw [e]
  exact ⟨.str (txt (List.replicate n c)), H, I.tok _, ⟨_, rfl⟩, q⟩
theorem rd_mulY {c n : Nat} {i : Int} {H : Hp} {Q : VK} (e : i = (n : Int)) (n13 : n ≤ 13) (q : Q (.str (txt (List.replicate n c))) H) : rMulY (.str (one c)) (.int i) H Q := ⟨c, n, rfl, by rw [e], n13, q⟩
theorem ImAt.wg {B : Box} {M : List Addr} {H H' : Hp} {v : V} {it : Im} (h : ImAt M H v it) (w : Wg B H H') (hm : ∀ a ∈ B.m, a ∈ M) : ImAt M H' v it := ImAt.keep h (fun _ z => z) (fun a o n e => w.keep a o (fun z => n (hm a z)) e) (Kt.wg w)
theorem rd_tryM {K : PySem.W.Frag} {l : List (Value × Nat × Suite)} {tb : WX → TS} {D : Ends} {σ : L2.St} {H : Hp} (q : tb (wCl K D l) D σ H) : tTryM K l tb D σ H := q
theorem rd_callSD {sp : Sp} {dvs : List V} {E : L2.St → XK} {t : TA} {σ : L2.St} {H : Hp} {Q : VK} (q : t σ H fun vs H1 => sp (vs ++ dvs) H1 Q (E σ)) : tCallSD sp dvs E t σ H Q := q
def wordOf (C : String) : Str := if C = "InvalidLine" then Str.ofString "line" else Str.ofString "plain"
/-- what is handed over as a script: its data, so that it can be compared -/
def Sp3 (K : PySem.W.Frag) (B : Box) (H : Hp) (v : V) : Prop :=
  v = .non ∨ (∃ p xs ds, v = .ref p ∧ H p = some (.tup xs) ∧ DpAll K H xs ds ∧ ∀ d ∈ ds, Sh 1 d) ∨ (∃ l xs ds, v = .ref l ∧ l ∉ B.m ∧ H l = some (.lst xs) ∧ (∀ H2, Wg B H H2 → DpAll K H2 xs ds) ∧ (∀ d ∈ ds, Sh 1 d) ∧ xs.length ≤ 200)
end Rv
/-! defs that raise nothing, called within an except suite -/
namespace Rv
open PySem PySem.Spec PyProof.Rows L2
/-- such a def's promise; p: the object of what is handled -/
structure FnQ (P : Program) (w : World) (K : PySem.W.Frag) (mg : Str → Option Value) (base : Heap) (k : Nat) (f : Addr) (fd : FuncData) (ps : List Str) (sp : Sp) : Prop where
  len : ∀ vs H Q E, sp vs H Q E → vs.length = ps.length
  go : ∀ (A : Around) (outer : List Env) (s : Shared) (H : Hp) (args : Args) (us : List Value) (vs : List V) (Q : VK) (E : XK) (p : Addr × Obj),
    L2H.RoomH k A → L2H.PinOk outer H s p → Env0 P w K mg base A outer s H → BindsTo s fd args (ps.zip us) → Vals vs us → sp vs H Q E → codeAny (model P w) A (.call (.ref f) args) (CR CX0 outer P w H s Q E) s
section
variable {P : Program} {w : World} {K : PySem.W.Frag} {mg : Str → Option Value} {base : Heap} {k : Nat} {f : Addr} {fd : FuncData} {N ps : List Str} {sp : Sp} {st : Stmt} {x qual : Str}
theorem fn_Q (F : Fun K x qual st f fd) (S : FnScope N ps (defScope st)) (len : ∀ vs H Q E, sp vs H Q E → vs.length = ps.length)
    (hb : ∀ (cdv : Value) (A : Around) (outer : List Env) (s : Shared) (H : Hp) (vs : List V) (Q : VK) (E : XK) (p : Addr × Obj), L2H.RoomH k (A.deeper (envOfC qual (defScope st) s.heap.objs.size f cdv)) → sp vs H Q E →
      ∃ t, PSs (L2H.cxH CX0 P w K mg base N qual (defScope st) f cdv A outer s H E p) (defBody st) t ∧ t ⟨fun _ H1 => Q .non H1, Q, fun _ _ => False, fun _ _ => False⟩ (L2.start N vs) H) : FnQ P w K mg base (k + 1) f fd ps sp := by
  obtain ⟨oc, od, kV, doc, pm, an, cdv, ct, osl, rfl, lk, hcd⟩ := F.ex
  constructor
  · exact len
  intro A outer s H args us vs Q E p hr pin e0 hbd rv hsp
  have hl := len _ _ _ _ hsp
  have base_in := e0.mod.kin.keeps fun b o e => (e0.bs b o e).1
  have base_lim := e0.mod.nolimit.keeps fun b o e => (e0.bs b o e).1
  have kinds : ∀ y ∈ ps.zip us, (defScope st).names.lookup y.1 = some .local ∨ ((defScope st).names.lookup y.1 = some .cell ∧ ((cellsFrom (s.heap.objs.size + 1) (defScope st).names []).lookup y.1).isSome = true) := by
    rintro ⟨n, v⟩ hy
    exact (S.par n (List.of_mem_zip hy).1).imp id fun q => ⟨q, PySem.W.cellsFrom_some _ _ _ (.inl q)⟩
  refine codeAny_call_function hr.depth (base_in _ _ lk) rfl S.co S.gen rfl (PySem.W.codeRec_of base_in hcd) (hbd _ _ _ _ (wpAny_newFunctionEnv_cells S.kind kinds fun env he s1 xc => ?_))
  subst he
  obtain ⟨t, ht, hq⟩ := hb cdv A outer s H vs Q E p (hr.deeper _) hsp
  refine ⟨base_lim.keeps xc.toInCall.keep, codeAny_func (wpAny_mono (ht.run [] s1 _ H _ (L2H.inv_startH S pin e0 hl rv xc) hq) (fun fl s2 hs => ?_) fun e s2 hs => hs)⟩
  cases fl with
  | ret u => exact hs.elim fun v hs => hs.elim fun σ1 hs => hs.elim fun H1 hs => ⟨v, H1, hs.1.os, hs.1.bare, hs.1.base, hs.1.hok, hs.2.1, hs.2.2⟩
  | next => exact hs.elim fun σ1 hs => hs.elim fun H1 hs => ⟨.non, H1, hs.1.os, hs.1.bare, hs.1.base, hs.1.hok, rfl, hs.2⟩
  | brk => exact hs.elim fun _ hs => hs.elim fun _ hs => hs.2.elim
  | cont => exact hs.elim fun _ hs => hs.elim fun _ hs => hs.2.elim
end
section
variable {X : Cx} {k : Nat} {f : Addr} {fd : FuncData} {ps : List Str} {sp : Sp} {x : Str} {q pos : Pos} {e : Expr} {es : List Expr} {t : TA}
theorem run_Q {pins : List (Addr × Obj)} {σ : L2.St} {H : Hp} {s : Shared} {Q : VK} {us : List Value} {vs : List V} {p : Addr × Obj} (F : FnQ X.prog X.w X.K X.mg X.base k f fd ps sp) (hr : L2H.RoomH k X.A) (hp : p ∈ X.pn) (hb : Binds X.K fd ps [])
    (I : Inv X pins σ H s) (r : Vals vs us) (h : sp vs H Q E0) : wpAny (model X.prog X.w) X.A (call (.ref f) us) (EP X pins σ Q) X.xe s := by
  have b := hb s us I.kIn (by rw [List.append_nil, ← r.length]; exact F.len _ _ _ _ h)
  rw [List.append_nil] at b
  have g := I.pin p (List.mem_append_left _ hp)
  have far : p.1 ∉ frs X.stack := fun hm => (List.mem_cons.mp (I.stkSub p.1 hm)).elim g.2.2.1 g.2.2.2.1
  refine wpAny_call (codeAny_mono (F.go X.A X.stack s H ⟨us, []⟩ us vs Q E0 p hr ⟨g.1, g.2.1, far, g.2.2.2.2⟩ I.env0 b r h) fun r s1 hq => ?_)
  match r, hq with
  | .error e, hq => exact hq.elim
  | .ok (.ret u), hq => exact I.after hq
  | .ok .next, hq => exact hq.elim
  | .ok .brk, hq => exact hq.elim
  | .ok .cont, hq => exact hq.elim
theorem pe_callQ {p : Addr × Obj} (F : FnQ X.prog X.w X.K X.mg X.base k f fd ps sp) (hr : L2H.RoomH k X.A) (hp : p ∈ X.pn) (hg : Gl X x) (hm : X.mg x = some (.ref f)) (hk : PySem.W.keepIn X.K (.ref f) = true) (hb : Binds X.K fd ps []) (ha : PA X (e :: es) t)
    (hd : (x == ("__debug__" : Str)) = false := by decide) (he : starEach (e :: es) X.env = (false, eval e X.env) :: starEach es X.env := by rfl) (hpl : (backTo pos (starEach es X.env)).any (·.1) = false := by rfl) :
    PE X (.Call (.Name x q) (e :: es) [] pos) (tCallR sp E0 t) :=
  ⟨fun pins s σ H Q I h => wpAny_Call_Name_kw (ld_glob I hg hm (PySem.W.callWith_K (h₀ := X.base) I.ok.mod.kin hk (thn (ha.run pos pins s σ H _ I h) fun us s1 z => by
    obtain ⟨vs, H1, I1, r, q⟩ := z
    exact ⟨I1.kIn, run_Q F hr hp hb I1 r q⟩) he hpl) hd)⟩
theorem roomQ {j k : Nat} {A : Around} (r : Room k A) (h : j ≤ k) (e : Option Value) : L2H.RoomH j (A.mark e) := L2H.RoomH.mono (k := k) ⟨r.dp, r.un⟩ h
theorem unitsQ {k : Nat} {A : Around} (r : Room k A) (e : Option Value) : (A.mark e).units + 64 < cLine := r.units
end
end Rv
/-! sets of whole numbers, made of lists and tuples -/
namespace Rv
open PySem PySem.Spec PyProof.Rows L2
section
variable {P : Program} {w : World} {A : Around} {E : Value → Shared → Prop} {s : Shared}
abbrev noSet (w : World) : Obj := ⟨.type "set", none, .set #[] 0 (.fresh 0 0 (!w.params.followText "set-order")), #[]⟩
theorem set_list {l : Addr} {its : Array Value} {ns : List Int} {Q : Value → Shared → Prop} (calm : A.handled = none) (isl : s.heap.IsList l its) (vals : IntsAre its.toList ns) (small : ns.length + 1 < scanBound)
    (fin : ∀ (G : Heap) (tk c : Nat), SetR w G s.heap.objs.size (fun j => decide (j ∈ ns)) c → c ≤ ns.length → (∀ b o, s.heap.get? b = some o → G.get? b = some o) → Q (.ref s.heap.objs.size) { s with heap := G, toks := tk }) :
    wpAny (model P w) A (call (.type "set") [.ref l]) Q E s := by
  have many : its.size = ns.length := by rw [← Array.length_toList]; exact IntsAre.length vals
  obtain ⟨cc, tl, hmro⟩ := F.called_set.mro
  have m0 := F.called_set.made
  have m1 := F.called_set.sub
  have m2 := F.called_set.notType
  have m3 := F.called_set.canCreate
  have m4 := F.typeCall_set_1 (.ref l)
  refine wpAny_call (codeAny_of_tree ?_)
  show wpAny (model P w) _ (callAny (.type "set") ⟨[.ref l], []⟩) _ _ s
  refine wpAny_pure ⟨Code.quiet_builtin _ (by decide +kernel), codeAny_builtin F.entry_type_call ?_⟩
  rw [Around.under_plain (weight_type_call_type "set" [.ref l] []) rfl]
  repeat (any_goals (first | assumption | wp_step))
  refine codeAny_mono (code_set_led1 (.ref l) (E := E) (Q₁ := fun r s1 => r = .ref s.heap.objs.size ∧ s1 = { s with heap := s.heap.push (noSet w) }) ⟨rfl, rfl⟩) fun r s1 hr => ?_
  match r, hr with
  | .error e, hr => exact hr
  | .ok (.ret _), ⟨e1, e2⟩ =>
    subst e1 e2
    have new : (s.heap.push (noSet w)).get? s.heap.objs.size = some (noSet w) := Heap.get?_push_size _ rfl
    have newT : Shared.TypeIs { s with heap := s.heap.push (noSet w) } (.ref s.heap.objs.size) "set" := ⟨_, new, rfl⟩
    have i0 := F.called_set.init.lookup
    have i1 := F.called_set.init.bind (.ref s.heap.objs.size)
    repeat (any_goals (first | assumption | wp_step))
    refine codeAny_mono (codeAny_call_builtin (R := wants (fun r s2 => r = .none ∧ ∃ G tk c, s2 = { s with heap := G, toks := tk } ∧ SetR w G s.heap.objs.size (fun j => decide (j ∈ ns)) c ∧ c ≤ ns.length ∧ ∀ b o, s.heap.get? b = some o → G.get? b = some o) E)
      F.called_set.init.plain F.entry_set_init (check_set_init_1 newT ?_)) fun r2 s2 hr2 => ?_
    · obtain ⟨⟨lc, ld, lt, ls⟩, lget, lcls, nn, ldat⟩ := isl
      obtain rfl : lc = .type "list" := lcls
      obtain rfl : lt = .seq its nn := ldat
      have under : l < s.heap.objs.size := Heap.lt_size lget
      have lget1 : (s.heap.push (noSet w)).get? l = some ⟨.type "list", ld, .seq its nn, ls⟩ := Heap.get?_push_of_some _ lget
      have lat : (s.heap.push (noSet w)).IsList l its := ⟨_, lget1, rfl, nn, rfl⟩
      have k1 := F.sub_list_set
      have k2 := F.sub_list_frozenset
      have k3 : (Value.type "list" == Value.type "dict") = false := by decide
      unfold Builtin.«set.__init__» noKeywords Builtin.Frozenset.updateFrom
      generalize hpi : pyIter = it_
      wp_walk
      subst hpi
      have calm3 : A.in1.in1.in1.handled = none := calm
      have next : (s.heap.push (noSet w)).objs.size = s.heap.objs.size + 1 := Heap.size_push ..
      have apart : l ≠ (s.heap.push (noSet w)).objs.size := fun z => absurd under (by rw [z, next]; exact Nat.not_lt.mpr (Nat.le_succ _))
      have away : s.heap.objs.size ∉ [(s.heap.push (noSet w)).objs.size, l] := fun z => by
        rcases List.mem_cons.mp z with z | z
        · rw [next] at z
          exact absurd z (Nat.ne_of_lt (Nat.lt_succ_self _))
        · exact absurd (List.mem_singleton.mp z).symm (Nat.ne_of_lt under)
      refine wpAny_pyIter_list lat (wpAny_bind (wpAny_runValue (set_update_ints ((Walks.list calm3 _ l apart its).toS) s.heap.objs.size away ns many small (fun i v e => ?_) (its.size - 0) 0 _ (by omega) (Nat.zero_le _) ⟨⟨_, Heap.get?_push_size _ rfl, rfl, rfl⟩, lat.push _⟩ ?_ fun s3 c moved cle sr => ?_)))
      · have hi : i < ns.length := by rw [← many]; exact (Array.getElem?_eq_some_iff.mp e).1
        obtain ⟨t, et⟩ := PyProof.Rows.IntsAre.int_at vals i v (by rw [Array.getElem?_toList]; exact e)
        refine ⟨ns[i], t, List.getElem?_eq_getElem hi, et.trans ?_⟩
        rw [List.getD_eq_getElem?_getD, List.getElem?_eq_getElem hi]
        rfl
      · exact ⟨0, Nat.le_refl 0, setR_new_at (Heap.get?_push_of_some _ new)⟩
      · obtain ⟨G, g3, d3, tk3, os3⟩ := s3
        obtain rfl : g3 = s.gens := moved.gens
        obtain rfl : d3 = s.drawn := moved.drawn
        obtain rfl : os3 = s.os := moved.os
        refine wpAny_pure (wpAny_pure ⟨rfl, G, tk3, c, rfl, sr, by rw [← many]; exact cle, fun b o e => moved.heap b o (fun z => ?_) (Heap.get?_push_of_some _ (Heap.get?_push_of_some _ e))⟩)
        have lo := Heap.lt_size e
        rcases List.mem_cons.mp z with z | z
        · exact absurd z (Nat.ne_of_lt lo)
        · have z2 := List.mem_singleton.mp z
          rw [next] at z2
          exact absurd z2 (Nat.ne_of_lt (Nat.lt_succ_of_lt lo))
    · match r2, hr2 with
      | .error e, hr2 => exact hr2
      | .ok (.ret _), ⟨z1, G, tk, c, z2, sr, cle, kp⟩ =>
        subst z1 z2
        repeat (any_goals (first | assumption | wp_step))
        exact fin _ _ _ sr cle kp
      | .ok .next, hr2 => exact hr2.elim
      | .ok .brk, hr2 => exact hr2.elim
      | .ok .cont, hr2 => exact hr2.elim
  | .ok .next, hr => exact hr.elim
  | .ok .brk, hr => exact hr.elim
  | .ok .cont, hr => exact hr.elim
end
section
variable {X : Cx}
/-- set(xs), xs a list or a tuple of whole numbers -/
def rSetI (K : PySem.W.Frag) (w : World) : List V → Hp → VK → Prop := fun xs H Q => ∃ (p : Addr) (ns : List Int), xs = [.ref p] ∧ (SqL K H p (ns.map V.int) ∨ SqT K H p (ns.map V.int)) ∧ ns.length < 64 ∧
  ∀ (a : Addr) (c : Nat), H a = none → c ≤ ns.length → Q (.ref a) (upd H a (SetO w a (fun j => decide (j ∈ ns)) c))
theorem cr_setI (hc : X.calm = true) : CallR X (.type "set") (rSetI X.K X.w) := by
  intro pins s σ H xs us Q I r h
  obtain ⟨p, ns, rfl, hs, h64, q⟩ := h
  have sb : ns.length + 1 < scanBound := by unfold scanBound; omega
  rw [Vals.ref1 r]
  rcases hs with hs | hs
  · obtain ⟨its, rv, ⟨o, n, ho, hcl, _, hd⟩, _⟩ := I.list hs
    exact set_list (its := its.toArray) (I.ok.hd hc) ⟨o, ho, hcl, n, hd⟩ (ints_of_vals rv) sb fun G tk c R hcn k => ⟨.ref _, upd H s.heap.objs.size (SetO X.w s.heap.objs.size (fun j => decide (j ∈ ns)) c), I.laid (t' := tk) k (Nat.le_refl _) (setO_new R), rfl, q _ c (I.hok.fresh (Nat.le_refl _)) hcn⟩
  · obtain ⟨its, rv, ht, _⟩ := I.tuple hs
    exact call_set_tupI ns (I.ok.hd hc) (show s.heap.IsTuple p its.toArray from ht) (ints_of_vals rv) sb fun G tk c R hcn k => ⟨.ref _, upd H s.heap.objs.size (SetO X.w s.heap.objs.size (fun j => decide (j ∈ ns)) c), I.laid (t' := tk) k (Nat.le_refl _) (setO_new R), rfl, q _ c (I.hok.fresh (Nat.le_refl _)) hcn⟩
end
/-- the ascending list of what stands in a list, once each -/
def Asc (ns os : List Int) : Prop := os.Pairwise (· < ·) ∧ ∀ k, k ∈ os ↔ k ∈ ns
theorem asc_uniq {ns : List Int} : ∀ {a b : List Int}, a.Pairwise (· < ·) → b.Pairwise (· < ·) → (∀ k, k ∈ a ↔ k ∈ b) → a = b
  | [], [], _, _, _ => rfl
  | [], x :: b, _, _, h => absurd ((h x).mpr (List.mem_cons_self ..)) List.not_mem_nil
  | x :: a, [], _, _, h => absurd ((h x).mp (List.mem_cons_self ..)) List.not_mem_nil
  | x :: a, y :: b, pa, pb, h => by
    have ha := List.pairwise_cons.mp pa
    have hb := List.pairwise_cons.mp pb
    have e : x = y := by
      rcases List.mem_cons.mp ((h x).mp (List.mem_cons_self ..)) with z | z
      · exact z
      · rcases List.mem_cons.mp ((h y).mpr (List.mem_cons_self ..)) with u | u
        · exact u.symm
        · have := hb.1 x z
          have := ha.1 y u
          omega
    subst e
    congr 1
    refine asc_uniq (ns := ns) ha.2 hb.2 fun k => ⟨fun m => ?_, fun m => ?_⟩
    · rcases List.mem_cons.mp ((h k).mp (List.mem_cons_of_mem _ m)) with z | z
      · have := ha.1 k m
        omega
      · exact z
    · rcases List.mem_cons.mp ((h k).mpr (List.mem_cons_of_mem _ m)) with z | z
      · have := hb.1 k m
        omega
      · exact z
theorem Asc.uniq {ns a b : List Int} (h : Asc ns a) (k : Asc ns b) : a = b := asc_uniq (ns := ns) h.1 k.1 fun x => (h.2 x).trans (k.2 x).symm
section
variable {K : PySem.W.Frag} {w : World} {H : Hp} {Q : VK} {p a : Addr} {ns : List Int} {c : Nat}
theorem rd_setI (h : H p = some (.lst (ns.map V.int)) ∨ H p = some (.tup (ns.map V.int))) (l : ns.length < 64) (q : ∀ H2 a c, Same H H2 → H a = none → c ≤ ns.length → H2 a = some (SetO w a (fun j => decide (j ∈ ns)) c) → Q (.ref a) H2) : rSetI K w [.ref p] H Q :=
  ⟨p, ns, rfl, h.imp SqL.of SqT.of, l, fun a c na hc => q _ a c (fun b u e => by rw [upd_ne (ne_of_none e na)]; exact e) na hc upd_same⟩
theorem rd_sortedI (h : H a = some (SetO w a (fun j => decide (j ∈ ns)) c)) (hc : c < 64) (q : ∀ H2 p os, Same H H2 → H p = none → H2 p = some (.lst (os.map V.int)) → Asc ns os → os.length = c → Q (.ref p) H2) : rSortedSet w [.ref a] H Q :=
  ⟨a, _, c, rfl, h, hc, fun os p pw m l np => q _ p os (fun b u e => by rw [upd_ne (ne_of_none e np)]; exact e) np upd_same ⟨pw, fun k => (m k).trans decide_eq_true_iff⟩ l⟩
end
end Rv
/-! which blocks matter -/
namespace Rv
open PySem PySem.Spec PyProof.Rows L2
theorem own_codes_full {n : Nat} (n12 : n ≤ 12) : Full (own n) := own_full n12
theorem flow_fin {n : Nat} {qs : List (Int × Int)} (n1 : 1 ≤ n) (n12 : n ≤ 12) (ok : ∀ p ∈ qs, PairOk n p) : (flowP (baseL (codes (own n)), codes (own n)) (lns qs)).1 = fin (own n) qs := by
  have I := own_img n1 n12
  have lo : (own n).length = n := own_len n
  have okl : ∀ r ∈ lns qs, LnOk (own n).length r := by rw [lo]; exact lns_ok ok
  have okc : ∀ r ∈ lns qs, LnOk (codes (own n)).length r := by rw [codes_len, lo]; exact lns_ok ok
  have h1 := flow_img I _ (lns qs) rfl okl
  have h2 := runP_cl (own_full n12) _ qs rfl (by rw [lo]; exact ok)
  have h3 := (flow_inv _ (lns qs) rfl okc).1
  rw [codes_len, lo] at h3
  rw [car_own h3, h2] at h1
  exact h1
theorem getD_map0 {f : Int → Int} {es : List Int} {k : Nat} (h : k < es.length) : (es.map f).getD k 0 = f (es.getD k 0) := by
  rw [List.getD_eq_getElem?_getD, List.getD_eq_getElem?_getD, List.getElem?_map, List.getElem?_eq_getElem h]
  rfl
/-- what a log does to an image, by what it does to the home image -/
theorem fin_comp {es : List Int} : ∀ (m : Nat) (qs : List (Int × Int)), qs.length = m → (∀ p ∈ qs, PairOk es.length p) → fin es qs = (fin (own es.length) qs).map fun j => es.getD j.toNat 0
  | 0, qs, e, _ => by
    obtain rfl := List.length_eq_zero_iff.mp e
    show es = (own es.length).map _
    unfold own
    rw [List.map_map]
    refine List.ext_getElem (by simp) fun k h1 h2 => ?_
    rw [List.getElem_map, List.getElem_range]
    show es[k] = es.getD ((k : Int)).toNat 0
    rw [Int.toNat_natCast, getD_get h1]
  | m + 1, qs, e, ok => by
    have ne : qs ≠ [] := fun z => by rw [z] at e; cases e
    obtain ⟨init, p, rfl⟩ : ∃ init p, qs = init ++ [p] := ⟨qs.dropLast, qs.getLast ne, (List.dropLast_concat_getLast ne).symm⟩
    rw [List.length_append] at e
    have ih := fin_comp (es := es) m init (by simpa using e) fun q hq => ok q (List.mem_append_left _ hq)
    have okp := ok p (by simp)
    have lf : (fin (own es.length) init).length = es.length := by rw [fin_len, own_len]
    rw [fin_add, fin_add, ih]
    unfold aft
    rw [getD_map0 (by rw [lf]; have := okp.s0; have := okp.s1; omega), List.map_set]
theorem fin_in {n : Nat} {qs : List (Int × Int)} (ok : ∀ p ∈ qs, PairOk n p) : ∀ x ∈ fin (own n) qs, 0 ≤ x ∧ x < n := by
  have : ∀ (m : Nat) (qs : List (Int × Int)), qs.length = m → (∀ p ∈ qs, PairOk n p) → ∀ x ∈ fin (own n) qs, 0 ≤ x ∧ x < n := by
    intro m
    induction m with
    | zero =>
      intro qs e _ x hx
      obtain rfl := List.length_eq_zero_iff.mp e
      exact own_mem.mp hx
    | succ m ih =>
      intro qs e ok x hx
      have ne : qs ≠ [] := fun z => by rw [z] at e; cases e
      obtain ⟨init, p, rfl⟩ : ∃ init p, qs = init ++ [p] := ⟨qs.dropLast, qs.getLast ne, (List.dropLast_concat_getLast ne).symm⟩
      rw [List.length_append] at e
      have ihi := ih init (by simpa using e) fun q hq => ok q (List.mem_append_left _ hq)
      have okp := ok p (by simp)
      rw [fin_add] at hx
      rcases List.mem_or_eq_of_mem_set hx with k | k
      · exact ihi x k
      · rw [k]
        exact ihi _ (getD_mem (by rw [fin_len, own_len]; have := okp.s0; have := okp.s1; omega))
  exact this _ qs rfl ok
/-- one line earlier -/
theorem mem_led {n : Nat} {p : Int × Int} {r : List (Int × Int)} (okp : PairOk n p) (ok : ∀ q ∈ r, PairOk n q) (x : Int) : x ∈ fin (own n) (p :: r) ↔ (x ≠ p.1 ∧ x ∈ fin (own n) r) ∨ (x = p.2 ∧ p.1 ∈ fin (own n) r) := by
  have la : (aft p (own n)).length = n := by rw [aft_len, own_len]
  have e1 : fin (own n) (p :: r) = (fin (own n) r).map fun j => (aft p (own n)).getD j.toNat 0 := by
    show fin (aft p (own n)) r = _
    have z := fin_comp (es := aft p (own n)) _ r rfl (by rw [la]; exact ok)
    rw [la] at z
    exact z
  have g : ∀ j : Int, 0 ≤ j → j < n → (aft p (own n)).getD j.toNat 0 = if j = p.1 then p.2 else j := fun j h0 h1 => by
    have t0 := okp.t0
    have t1 := okp.t1
    have lo : (own n).length = n := own_len n
    unfold aft
    rw [own_getD okp.s0 okp.s1, List.getD_eq_getElem?_getD]
    by_cases e : j = p.1
    · rw [if_pos e, e, List.getElem?_set_self (by omega)]
      rfl
    · rw [if_neg e, List.getElem?_set_ne (by omega), ← List.getD_eq_getElem?_getD, own_getD h0 h1]
  rw [e1, List.mem_map]
  constructor
  · rintro ⟨j, hj, rfl⟩
    have b := fin_in ok j hj
    rw [g j b.1 b.2]
    by_cases e : j = p.1
    · rw [if_pos e]
      exact .inr ⟨rfl, by rw [← e]; exact hj⟩
    · rw [if_neg e]
      exact .inl ⟨e, hj⟩
  · rintro (⟨h1, h2⟩ | ⟨h1, h2⟩)
    · have b := fin_in ok x h2
      exact ⟨x, h2, by rw [g x b.1 b.2, if_neg h1]⟩
    · have b := fin_in ok p.1 h2
      exact ⟨p.1, h2, by rw [g p.1 b.1 b.2, if_pos rfl, h1]⟩
theorem drop_next {α : Type} {ps : List α} {k : Nat} (h : k < ps.length) : ps.drop k = ps[k] :: ps.drop (k + 1) := List.drop_eq_getElem_cons h
theorem Asc.congr {a b os : List Int} (h : Asc a os) (e : ∀ k, k ∈ a ↔ k ∈ b) : Asc b os := ⟨h.1, fun k => (h.2 k).trans (e k)⟩
theorem own_asc (n : Nat) : Asc (own n) (own n) := ⟨by
  unfold own
  exact List.Pairwise.map _ (fun a b h => by omega) List.pairwise_lt_range, fun k => Iff.rfl⟩
theorem dp_ints2 {K : PySem.W.Frag} {H : Hp} {D : Addr} {es : List Int} (h : H D = some (.lst (es.map V.int))) : Dp K H (.ref D) (.list (es.map PyData.int)) := .lst (SqL.of h) (dp_ints es)
theorem sh_ints2 (es : List Int) : Sh 1 (.list (es.map PyData.int)) := Sh.list fun d hd => by
  obtain ⟨i, _, rfl⟩ := List.mem_map.mp hd
  exact Sh.int i
theorem asc_len {ns os : List Int} {n : Nat} (h : Asc ns os) (b : ∀ x ∈ ns, 0 ≤ x ∧ x < (n : Int)) : os.length ≤ n := by
  have key : ∀ (m : Nat) (os : List Int) (lo : Int), os.Pairwise (· < ·) → (∀ x ∈ os, lo ≤ x ∧ x < lo + m) → os.length ≤ m := by
    intro m
    induction m with
    | zero =>
      intro os lo _ h
      cases os with
      | nil => exact Nat.le_refl _
      | cons x r =>
        have := h x (List.mem_cons_self ..)
        omega
    | succ m ih =>
      intro os lo pw h
      cases os with
      | nil => exact Nat.zero_le _
      | cons x r =>
        have pr := List.pairwise_cons.mp pw
        have hx := h x (List.mem_cons_self ..)
        have := ih r (lo + 1) pr.2 fun y hy => by
          have a1 := pr.1 y hy
          have a2 := h y (List.mem_cons_of_mem _ hy)
          constructor
          · omega
          · omega
        show r.length + 1 ≤ m + 1
        omega
  exact key n os 0 h.1 fun x hx => by have := b x ((h.2 x).mp hx); omega
end Rv
/-! searches; what restarts from the top do -/
namespace Rv
open PySem PySem.Spec PyProof.Rows L2
section
variable {P : Type}
inductive Rch (nx : P → List P) (s : P) : P → Prop
  | refl : Rch nx s s
  | step {p q : P} (h : Rch nx s p) (m : q ∈ nx p) : Rch nx s q
/-- a search between two turns: what waits, what was met, how many were taken up -/
structure Sr (nx : P → List P) (s : P) (td seen : List P) (i : Nat) : Prop where
  nd : seen.Nodup
  st : s ∈ seen
  rc : ∀ p ∈ seen, Rch nx s p
  tds : ∀ p ∈ td, p ∈ seen
  cl : ∀ p ∈ seen, p ∈ td ∨ ∀ q ∈ nx p, q ∈ seen
  cnt : i + td.length = seen.length
/-- p was taken up, the first j of what follows were looked at -/
structure Pr (nx : P → List P) (s p : P) (td seen : List P) (i j : Nat) : Prop where
  nd : seen.Nodup
  st : s ∈ seen
  pin : p ∈ seen
  rc : ∀ p ∈ seen, Rch nx s p
  tds : ∀ p ∈ td, p ∈ seen
  cl : ∀ q ∈ seen, q ∈ td ∨ q = p ∨ ∀ r ∈ nx q, r ∈ seen
  done : ∀ (k : Nat) q, k < j → (nx p)[k]? = some q → q ∈ seen
  cnt : i + 1 + td.length = seen.length
variable {nx : P → List P} {s p q : P} {td seen : List P} {i j : Nat}
theorem Sr.start : Sr nx s [s] [s] 0 := ⟨List.nodup_cons.mpr ⟨List.not_mem_nil, List.nodup_nil⟩, List.mem_cons_self .., fun p h => by rw [List.mem_singleton.mp h]; exact .refl, fun p h => h, fun p h => .inl h, rfl⟩
theorem Sr.pop (S : Sr nx s (td ++ [p]) seen i) : Pr nx s p td seen i 0 := ⟨S.nd, S.st, S.tds p (by simp), S.rc, fun q h => S.tds q (List.mem_append_left _ h), fun q h => by
  rcases S.cl q h with k | k
  · rcases List.mem_append.mp k with z | z
    · exact .inl z
    · exact .inr (.inl (List.mem_singleton.mp z))
  · exact .inr (.inr k), fun k q h => absurd h (Nat.not_lt_zero k), by have := S.cnt; rw [List.length_append, List.length_singleton] at this; omega⟩
theorem Pr.old (S : Pr nx s p td seen i j) (e : (nx p)[j]? = some q) (h : q ∈ seen) : Pr nx s p td seen i (j + 1) := { S with
  done := fun k r hk er => by
    by_cases z : k = j
    · subst z
      rw [e] at er
      cases er
      exact h
    · exact S.done k r (by omega) er }
theorem Pr.new (S : Pr nx s p td seen i j) (e : (nx p)[j]? = some q) (h : q ∉ seen) : Pr nx s p (td ++ [q]) (seen ++ [q]) i (j + 1) :=
  ⟨List.nodup_append.mpr ⟨S.nd, List.nodup_cons.mpr ⟨List.not_mem_nil, List.nodup_nil⟩, fun a ha b hb => by
    rw [List.mem_singleton.mp hb]
    exact fun z => h (z ▸ ha)⟩, List.mem_append_left _ S.st, List.mem_append_left _ S.pin, fun r hr => by
    rcases List.mem_append.mp hr with k | k
    · exact S.rc r k
    · rw [List.mem_singleton.mp k]
      exact .step (S.rc p S.pin) (List.mem_of_getElem? e), fun r hr => by
    rcases List.mem_append.mp hr with k | k
    · exact List.mem_append_left _ (S.tds r k)
    · exact List.mem_append_right _ k, fun r hr => by
    rcases List.mem_append.mp hr with k | k
    · rcases S.cl r k with z | z | z
      · exact .inl (List.mem_append_left _ z)
      · exact .inr (.inl z)
      · exact .inr (.inr fun a ha => List.mem_append_left _ (z a ha))
    · exact .inl (List.mem_append_right _ k), fun k r hk er => by
    by_cases z : k = j
    · subst z
      rw [e] at er
      cases er
      exact List.mem_append_right _ (List.mem_singleton.mpr rfl)
    · exact List.mem_append_left _ (S.done k r (by omega) er), by
    have := S.cnt
    rw [List.length_append, List.length_append, List.length_singleton]
    omega⟩
theorem Pr.fin (S : Pr nx s p td seen i (nx p).length) : Sr nx s td seen (i + 1) := ⟨S.nd, S.st, S.rc, S.tds, fun q h => by
  rcases S.cl q h with k | k | k
  · exact .inl k
  · subst k
    refine .inr fun r hr => ?_
    obtain ⟨k, hk, e⟩ := List.mem_iff_getElem.mp hr
    exact S.done k r hk (by rw [← e]; exact List.getElem?_eq_getElem hk)
  · exact .inr k, S.cnt⟩
theorem Sr.all (S : Sr nx s [] seen i) (q : P) : q ∈ seen ↔ Rch nx s q := ⟨S.rc q, fun r => by
  induction r with
  | refl => exact S.st
  | step h m ih =>
    rcases S.cl _ ih with k | k
    · exact absurd k List.not_mem_nil
    · exact k _ m⟩
end
theorem nodup_len : ∀ (N : Nat) (l : List Nat), l.Nodup → (∀ x ∈ l, x < N) → l.length ≤ N
  | 0, l, _, h => by
    cases l with
    | nil => exact Nat.le_refl _
    | cons x r => exact absurd (h x (List.mem_cons_self ..)) (Nat.not_lt_zero x)
  | N + 1, l, nd, h => by
    by_cases m : N ∈ l
    · have e := List.length_erase_of_mem m
      have ih := nodup_len N (l.erase N) (nd.erase N) fun x hx => by
        have h1 := h x (List.mem_of_mem_erase hx)
        have h2 : x ≠ N := fun z => by
          rw [z] at hx
          exact nd.not_mem_erase hx
        omega
      have := List.length_pos_of_mem m
      omega
    · have ih := nodup_len N l nd fun x hx => by
        have h1 := h x hx
        have h2 : x ≠ N := fun z => m (z ▸ hx)
        omega
      omega
theorem nodup_map {α β : Type} {f : α → β} {l : List α} (nd : l.Nodup) (inj : ∀ a ∈ l, ∀ b ∈ l, f a = f b → a = b) : (l.map f).Nodup := by
  induction l with
  | nil => exact List.nodup_nil
  | cons x r ih =>
    obtain ⟨h1, h2⟩ := List.nodup_cons.mp nd
    rw [List.map_cons]
    refine List.nodup_cons.mpr ⟨fun z => ?_, ih h2 fun a ha b hb => inj a (List.mem_cons_of_mem _ ha) b (List.mem_cons_of_mem _ hb)⟩
    obtain ⟨y, hy, e⟩ := List.mem_map.mp z
    exact h1 (inj y (List.mem_cons_of_mem _ hy) x (List.mem_cons_self ..) e ▸ hy)
/-- places of a grid, each once, are no more than its cells -/
theorem grid_len {m n : Nat} {l : List (Nat × Nat)} (nd : l.Nodup) (h : ∀ p ∈ l, p.1 < m ∧ p.2 < n) : l.length ≤ m * n := by
  have z := nodup_len (m * n) (l.map fun p => p.1 * n + p.2) (nodup_map nd fun a ha b hb e => by
    have ea := h a ha
    have eb := h b hb
    have e1 : a.1 * n + a.2 = b.1 * n + b.2 := e
    have hn : 0 < n := by omega
    have q1 : (a.1 * n + a.2) / n = a.1 := by rw [Nat.mul_comm, Nat.mul_add_div hn, Nat.div_eq_of_lt ea.2, Nat.add_zero]
    have q2 : (b.1 * n + b.2) / n = b.1 := by rw [Nat.mul_comm, Nat.mul_add_div hn, Nat.div_eq_of_lt eb.2, Nat.add_zero]
    have q3 : a.1 = b.1 := by rw [← q1, ← q2, e1]
    have q4 : a.2 = b.2 := by rw [q3] at e1; omega
    exact Prod.ext q3 q4) fun x hx => by
    obtain ⟨p, hp, rfl⟩ := List.mem_map.mp hx
    obtain ⟨h1, h2⟩ := h p hp
    calc p.1 * n + p.2 < p.1 * n + n := by omega
      _ = (p.1 + 1) * n := by rw [Nat.add_mul, Nat.one_mul]
      _ ≤ m * n := Nat.mul_le_mul_right n h1
  rw [List.length_map] at z
  exact z
/-- a small image as a number -/
def enc4 : List Int → Nat
  | [] => 0
  | x :: r => x.toNat + 4 * enc4 r
theorem enc4_lt : ∀ {es : List Int}, (∀ e ∈ es, 0 ≤ e ∧ e < 4) → enc4 es < 4 ^ es.length
  | [], _ => by decide
  | x :: r, h => by
    have ih := enc4_lt (es := r) fun e he => h e (List.mem_cons_of_mem _ he)
    have hx := h x (List.mem_cons_self ..)
    show x.toNat + 4 * enc4 r < 4 ^ (r.length + 1)
    rw [Nat.pow_succ]
    omega
theorem enc4_inj : ∀ {a b : List Int}, a.length = b.length → (∀ e ∈ a, 0 ≤ e ∧ e < 4) → (∀ e ∈ b, 0 ≤ e ∧ e < 4) → enc4 a = enc4 b → a = b
  | [], [], _, _, _, _ => rfl
  | [], _ :: _, h, _, _, _ => by simp at h
  | _ :: _, [], h, _, _, _ => by simp at h
  | x :: r, y :: t, h, ha, hb, e => by
    have hx := ha x (List.mem_cons_self ..)
    have hy := hb y (List.mem_cons_self ..)
    have e2 : x.toNat + 4 * enc4 r = y.toNat + 4 * enc4 t := e
    have e3 : x = y := by omega
    have e4 : enc4 r = enc4 t := by omega
    rw [e3, enc4_inj (by simpa using h) (fun z hz => ha z (List.mem_cons_of_mem _ hz)) (fun z hz => hb z (List.mem_cons_of_mem _ hz)) e4]
theorem imgs_len4 {n : Nat} {l : List (List Int)} (n4 : n ≤ 4) (nd : l.Nodup) (h : ∀ es ∈ l, es.length = n ∧ ∀ e ∈ es, 0 ≤ e ∧ e < (n : Int)) : l.length ≤ 256 := by
  have z := nodup_len 256 (l.map enc4) (nodup_map nd fun a ha b hb e => enc4_inj (by rw [(h a ha).1, (h b hb).1]) (fun x hx => by have := (h a ha).2 x hx; omega) (fun x hx => by have := (h b hb).2 x hx; omega) e) fun x hx => by
    obtain ⟨es, he, rfl⟩ := List.mem_map.mp hx
    obtain ⟨h1, h2⟩ := h es he
    have k := enc4_lt (es := es) fun e hm => by have := h2 e hm; omega
    have p : 4 ^ es.length ≤ 4 ^ 4 := Nat.pow_le_pow_right (by decide) (by omega)
    have p2 : (4 : Nat) ^ 4 = 256 := by decide
    omega
  rw [List.length_map] at z
  exact z
/-! from the top -/
def src (n : Nat) (ps : List (Int × Int)) (k b : Nat) : Int := (at_ n ps k).getD b 0
/-- nothing spoils -/
def TopOk (n : Nat) (ps : List (Int × Int)) : Prop := ∀ k, k ≤ ps.length → ∀ b : Nat, b < n → (b : Int) ∈ at_ n ps ps.length → src n ps k b = b
def nxT (n : Nat) (ps : List (Int × Int)) (p : Nat × Nat) : List (Nat × Nat) :=
  (if 0 < p.1 then [(0, p.2)] else []) ++ (match ps[p.1]? with
    | some q => (if (p.2 : Int) ≠ q.1 then [(p.1 + 1, p.2)] else []) ++ (if (p.2 : Int) = q.2 then [(p.1 + 1, q.1.toNat)] else [])
    | none => [])
section
variable {n : Nat} {ps : List (Int × Int)}
theorem at_len (k : Nat) : (at_ n ps k).length = n := by
  unfold at_
  rw [fin_len, own_len]
theorem at_in (ok : ∀ p ∈ ps, PairOk n p) (k : Nat) : ∀ x ∈ at_ n ps k, 0 ≤ x ∧ x < n := fin_in fun p hp => ok p (List.mem_of_mem_take hp)
theorem src0 {b : Nat} (h : b < n) : src n ps 0 b = b := by
  unfold src at_
  rw [List.take_zero]
  show (own n).getD b 0 = b
  have z := own_getD (n := n) (x := (b : Int)) (by omega) (by omega)
  rw [Int.toNat_natCast] at z
  exact z
theorem src_next (ok : ∀ p ∈ ps, PairOk n p) {k b : Nat} (hk : k < ps.length) (hb : b < n) : src n ps (k + 1) b = if (b : Int) = ps[k].1 then src n ps k ps[k].2.toNat else src n ps k b := by
  have okp := ok _ (List.getElem_mem hk)
  have e : at_ n ps (k + 1) = aft ps[k] (at_ n ps k) := by
    unfold at_
    rw [take_next hk, fin_add]
  unfold src
  rw [e]
  unfold aft
  have t0 := okp.t0
  have t1 := okp.t1
  have la := at_len (n := n) (ps := ps) k
  by_cases z : (b : Int) = ps[k].1
  · rw [if_pos z, List.getD_eq_getElem?_getD, show ps[k].1.toNat = b by omega, List.getElem?_set_self (by omega)]
    rfl
  · rw [if_neg z, List.getD_eq_getElem?_getD, List.getElem?_set_ne (by omega), ← List.getD_eq_getElem?_getD]
theorem src_in (ok : ∀ p ∈ ps, PairOk n p) {k b : Nat} (hb : b < n) : 0 ≤ src n ps k b ∧ src n ps k b < n := at_in ok k _ (getD_mem (by rw [at_len]; exact hb))
theorem nxT_mem {p q : Nat × Nat} : q ∈ nxT n ps p ↔ (0 < p.1 ∧ q = (0, p.2)) ∨ (∃ (h : p.1 < ps.length), ((p.2 : Int) ≠ ps[p.1].1 ∧ q = (p.1 + 1, p.2)) ∨ ((p.2 : Int) = ps[p.1].2 ∧ q = (p.1 + 1, ps[p.1].1.toNat))) := by
  unfold nxT
  rw [List.mem_append]
  have e1 : q ∈ (if 0 < p.1 then [(0, p.2)] else []) ↔ 0 < p.1 ∧ q = (0, p.2) := by
    split
    · rename_i h; simp [h]
    · rename_i h; simp [h]
  rw [e1]
  refine or_congr Iff.rfl ?_
  by_cases h : p.1 < ps.length
  · rw [List.getElem?_eq_getElem h]
    simp only [List.mem_append]
    constructor
    · rintro (k | k)
      · split at k
        · rename_i z
          exact ⟨h, .inl ⟨z, by simpa using k⟩⟩
        · simp at k
      · split at k
        · rename_i z
          exact ⟨h, .inr ⟨z, by simpa using k⟩⟩
        · simp at k
    · rintro ⟨_, ⟨z, k⟩ | ⟨z, k⟩⟩
      · exact .inl (by rw [if_pos z, k]; simp)
      · exact .inr (by rw [if_pos z, k]; simp)
  · rw [List.getElem?_eq_none (by omega)]
    exact ⟨fun k => absurd k List.not_mem_nil, fun ⟨k, _⟩ => absurd k h⟩
theorem rch_in (ok : ∀ p ∈ ps, PairOk n p) {v : Nat} (hv : v < n) {p : Nat × Nat} (r : Rch (nxT n ps) (0, v) p) : p.1 ≤ ps.length ∧ p.2 < n := by
  induction r with
  | refl => exact ⟨Nat.zero_le _, hv⟩
  | @step p q h m ih =>
    rcases nxT_mem.mp m with ⟨_, e⟩ | ⟨h1, ⟨_, e⟩ | ⟨_, e⟩⟩
    · rw [e]
      exact ⟨Nat.zero_le _, ih.2⟩
    · rw [e]
      exact ⟨h1, ih.2⟩
    · rw [e]
      have okp := ok _ (List.getElem_mem h1)
      have t0 := okp.t0
      have t1 := okp.t1
      refine ⟨h1, ?_⟩
      show ps[p.1].1.toNat < n
      omega
/-- on from the top -/
theorem rch_on (ok : ∀ p ∈ ps, PairOk n p) {v c : Nat} (r : Rch (nxT n ps) (0, v) (0, c)) (hc : c < n) : ∀ k, k ≤ ps.length → ∀ b, b < n → src n ps k b = c → Rch (nxT n ps) (0, v) (k, b)
  | 0, _, b, hb, e => by
    rw [src0 hb] at e
    rw [show b = c by omega]
    exact r
  | k + 1, hk, b, hb, e => by
    have hk2 : k < ps.length := by omega
    have okp := ok _ (List.getElem_mem hk2)
    rw [src_next ok hk2 hb] at e
    by_cases z : (b : Int) = ps[k].1
    · rw [if_pos z] at e
      have s0 := okp.s0
      have s1 := okp.s1
      have ih := rch_on ok r hc k (by omega) ps[k].2.toNat (by omega) e
      refine .step ih (nxT_mem.mpr (.inr ⟨hk2, .inr ⟨by show ((ps[k].2.toNat : Nat) : Int) = ps[k].2; omega, ?_⟩⟩))
      show (k + 1, b) = (k + 1, ps[k].1.toNat)
      rw [show ps[k].1.toNat = b by omega]
    · rw [if_neg z] at e
      exact .step (rch_on ok r hc k (by omega) b hb e) (nxT_mem.mpr (.inr ⟨hk2, .inl ⟨z, rfl⟩⟩))
theorem rch_top (ok : ∀ p ∈ ps, PairOk n p) (t : TopOk n ps) {v : Nat} (hv : v < n) {p : Nat × Nat} (r : Rch (nxT n ps) (0, v) p) : src n ps p.1 p.2 ∈ at_ n ps ps.length → src n ps p.1 p.2 = v := by
  induction r with
  | refl => exact fun _ => src0 hv
  | @step p q h m ih =>
    have b := rch_in ok hv h
    intro hm
    rcases nxT_mem.mp m with ⟨_, e⟩ | ⟨h1, ⟨z, e⟩ | ⟨z, e⟩⟩
    · rw [e] at hm ⊢
      have e0 : src n ps 0 p.2 = p.2 := src0 b.2
      have hm2 : ((p.2 : Nat) : Int) ∈ at_ n ps ps.length := by
        have := hm
        rw [e0] at this
        exact this
      have e1 := t p.1 b.1 p.2 b.2 hm2
      show src n ps 0 p.2 = v
      rw [e0, ← e1]
      exact ih (by rw [e1]; exact hm2)
    · rw [e] at hm ⊢
      have e1 : src n ps (p.1 + 1) p.2 = src n ps p.1 p.2 := by rw [src_next ok h1 b.2, if_neg z]
      have hm' : src n ps (p.1 + 1) p.2 ∈ at_ n ps ps.length := hm
      show src n ps (p.1 + 1) p.2 = v
      rw [e1] at hm' ⊢
      exact ih hm'
    · rw [e] at hm ⊢
      have okp := ok _ (List.getElem_mem h1)
      have t0 := okp.t0
      have t1 := okp.t1
      have e1 : src n ps (p.1 + 1) ps[p.1].1.toNat = src n ps p.1 p.2 := by
        rw [src_next ok h1 (by omega), if_pos (by omega), show ps[p.1].2.toNat = p.2 by omega]
      have hm' : src n ps (p.1 + 1) ps[p.1].1.toNat ∈ at_ n ps ps.length := hm
      show src n ps (p.1 + 1) ps[p.1].1.toNat = v
      rw [e1] at hm' ⊢
      exact ih hm'
/-- one number for each block at the end, exactly if nothing spoils -/
theorem top_one (ok : ∀ p ∈ ps, PairOk n p) : TopOk n ps ↔ ∀ x, x < n → ∀ v w, v < n → w < n → Rch (nxT n ps) (0, v) (ps.length, x) → Rch (nxT n ps) (0, w) (ps.length, x) → v = w := by
  constructor
  · intro t x hx v w hv hw r1 r2
    have m : src n ps ps.length x ∈ at_ n ps ps.length := getD_mem (by rw [at_len]; exact hx)
    have e1 := rch_top ok t hv r1 m
    have e2 := rch_top ok t hw r2 m
    have e3 : src n ps ps.length x = v := e1
    have e4 : src n ps ps.length x = w := e2
    omega
  · intro u k hk b hb hm
    obtain ⟨x, hx, e⟩ := List.mem_iff_getElem.mp hm
    have hx2 : x < n := by rw [at_len] at hx; exact hx
    have ex : src n ps ps.length x = b := by
      unfold src
      rw [getD_get hx, e]
    have d := src_in ok (k := k) hb
    obtain ⟨c, hc⟩ : ∃ c : Nat, src n ps k b = c := ⟨(src n ps k b).toNat, by omega⟩
    have hcn : c < n := by omega
    have r1 : Rch (nxT n ps) (0, b) (ps.length, x) := rch_on ok .refl hb _ (Nat.le_refl _) x hx2 ex
    by_cases k0 : k = 0
    · rw [k0, src0 hb]
    · have r2 : Rch (nxT n ps) (0, c) (k, b) := rch_on ok .refl hcn k hk b hb hc
      have r3 : Rch (nxT n ps) (0, c) (0, b) := .step r2 (nxT_mem.mpr (.inl ⟨by show 0 < k; omega, rfl⟩))
      have r4 := rch_on ok r3 hb _ (Nat.le_refl _) x hx2 ex
      rw [hc, u x hx2 b c hb hcn r1 r4]
theorem top_reach (ok : ∀ p ∈ ps, PairOk n p) {x : Nat} (hx : x < n) : ∃ v, v < n ∧ Rch (nxT n ps) (0, v) (ps.length, x) := by
  have d := src_in ok (k := ps.length) hx
  exact ⟨(src n ps ps.length x).toNat, by omega, rch_on ok .refl (by omega) _ (Nat.le_refl _) x hx (by omega)⟩
/-! by images -/
def nxI (ps : List (Int × Int)) (es : List Int) : List (List Int) := (List.range ps.length).map fun k => fin es (ps.take (k + 1))
theorem nxI_mem {es fs : List Int} : fs ∈ nxI ps es ↔ ∃ k, 1 ≤ k ∧ k ≤ ps.length ∧ fs = fin es (ps.take k) := by
  unfold nxI
  rw [List.mem_map]
  constructor
  · rintro ⟨k, hk, rfl⟩
    have := List.mem_range.mp hk
    exact ⟨k + 1, by omega, by omega, rfl⟩
  · rintro ⟨k, h1, h2, rfl⟩
    exact ⟨k - 1, List.mem_range.mpr (by omega), by rw [show k - 1 + 1 = k by omega]⟩
theorem comp_at {es : List Int} (le : es.length = n) (ok : ∀ p ∈ ps, PairOk n p) (k : Nat) : fin es (ps.take k) = (at_ n ps k).map fun j => es.getD j.toNat 0 := by
  have z := fin_comp (es := es) _ (ps.take k) rfl (by rw [le]; exact fun p hp => ok p (List.mem_of_mem_take hp))
  rw [le] at z
  exact z
theorem img_in (ok : ∀ p ∈ ps, PairOk n p) {es : List Int} (r : Rch (nxI ps) (own n) es) : es.length = n ∧ ∀ e ∈ es, 0 ≤ e ∧ e < (n : Int) := by
  induction r with
  | refl => exact ⟨own_len n, fun e he => own_mem.mp he⟩
  | @step p q h m ih =>
    obtain ⟨k, _, _, rfl⟩ := nxI_mem.mp m
    refine ⟨by rw [fin_len]; exact ih.1, fun e he => ?_⟩
    rw [comp_at ih.1 ok] at he
    obtain ⟨j, hj, rfl⟩ := List.mem_map.mp he
    have b := at_in ok k j hj
    exact ih.2 _ (getD_mem (by rw [ih.1]; omega))
theorem img_top (ok : ∀ p ∈ ps, PairOk n p) (t : TopOk n ps) {es : List Int} (r : Rch (nxI ps) (own n) es) : ∀ b : Nat, b < n → (b : Int) ∈ at_ n ps ps.length → es.getD b 0 = b := by
  induction r with
  | refl =>
    intro b hb _
    have z := own_getD (n := n) (x := (b : Int)) (by omega) (by omega)
    rw [Int.toNat_natCast] at z
    exact z
  | @step p q h m ih =>
    intro b hb hm
    obtain ⟨k, _, hk, rfl⟩ := nxI_mem.mp m
    have lp := (img_in ok h).1
    rw [comp_at lp ok, getD_map0 (by rw [at_len]; exact hb)]
    have e := t k hk b hb hm
    unfold src at e
    rw [e, Int.toNat_natCast]
    exact ih b hb hm
theorem top_img (ok : ∀ p ∈ ps, PairOk n p) : TopOk n ps ↔ ∀ es, Rch (nxI ps) (own n) es → fin es ps = fin (own n) ps := by
  have e0 : at_ n ps ps.length = fin (own n) ps := by
    unfold at_
    rw [List.take_of_length_le (Nat.le_refl _)]
  constructor
  · intro t es r
    have lp := (img_in ok r).1
    have z := comp_at lp ok ps.length
    rw [List.take_of_length_le (Nat.le_refl _)] at z
    rw [z, ← e0]
    refine (List.map_congr_left fun j hj => ?_).trans (List.map_id _)
    have b := at_in ok _ j hj
    have k := img_top ok t r j.toNat (by omega) (by rw [show ((j.toNat : Nat) : Int) = j by omega]; exact hj)
    show es.getD j.toNat 0 = id j
    rw [k]
    show ((j.toNat : Nat) : Int) = j
    omega
  · intro u k hk b hb hm
    by_cases k0 : k = 0
    · rw [k0, src0 hb]
    · have r : Rch (nxI ps) (own n) (fin (own n) (ps.take k)) := .step .refl (nxI_mem.mpr ⟨k, by omega, hk, rfl⟩)
      have e := u _ r
      obtain ⟨x, hx, ex⟩ := List.mem_iff_getElem.mp hm
      have hx2 : x < n := by rw [at_len] at hx; exact hx
      have z := comp_at (es := fin (own n) (ps.take k)) (by rw [fin_len, own_len]) ok ps.length
      rw [List.take_of_length_le (Nat.le_refl _), e, ← e0] at z
      have g : (at_ n ps ps.length).getD x 0 = (fin (own n) (ps.take k)).getD ((at_ n ps ps.length).getD x 0).toNat 0 := by
        have z2 := congrArg (fun l : List Int => l.getD x 0) z
        have z3 : (at_ n ps ps.length).getD x 0 = ((at_ n ps ps.length).map fun j => (fin (own n) (ps.take k)).getD j.toNat 0).getD x 0 := z2
        rw [getD_map0 (f := fun j => (fin (own n) (ps.take k)).getD j.toNat 0) hx] at z3
        exact z3
      rw [getD_get hx, ex, Int.toNat_natCast] at g
      exact g.symm
end
end Rv
/-! searches in the heap: what waits, tables of what was met -/
namespace Rv
open PySem PySem.Spec PyProof.Rows L2
def rIntB : List V → Hp → VK → Prop := fun xs H Q => ∃ b : Bool, xs = [.bl b] ∧ Q (.int (if b then 1 else 0)) H
theorem call_intB {X : Cx} : CallR X (.type "int") rIntB := fun pins s σ H xs us Q I r h => call_int1 pins s σ H xs us Q I r (.inr h)
section
variable {σ : L2.St} {H : Hp} {K : PySem.W.Frag} {Q : VK} {p : Addr} {xs : List V} {y : V} {D : Ends}
theorem rd_pop0 {i : Nat} (hv : σ[i]? = some (some (.ref p))) (h : H p = some (.lst (xs ++ [y]))) (q : Q y (upd H p (.lst xs))) : tBM0 K "list" rPop (tVar i) σ H Q :=
  ⟨_, hv, .inl ⟨rfl, _, SqL.of h⟩, p, xs ++ [y], y, rfl, rfl, h, by simp, by rw [List.dropLast_concat]; exact q⟩
theorem rd_notN {te : TE} (q : te σ H fun x H1 => Q (.bl (!decide (x = .non))) H1) : tNotN te σ H Q := q
theorem rd_break (q : D.bk σ H) : tBreak D σ H := q
theorem rd_intB {b : Bool} (q : Q (.int (if b then 1 else 0)) H) : rIntB [.bl b] H Q := ⟨b, rfl, q⟩
theorem rd_dnewT (q : NewL (.dT []) Q H) : tDNewT σ H Q := q
theorem rd_lenDT {kvs : List (List Key × V)} (h : H p = some (.dT kvs)) (q : Q (.int ((kvs.length : Nat) : Int)) H) : rLenT [.ref p] H Q := ⟨p, kvs, rfl, h, q⟩
end
def ky (es : List Int) : List Key := es.map Sum.inl
theorem ky_kV (es : List Int) : (ky es).map kV = es.map V.int := by
  unfold ky
  rw [List.map_map]
  rfl
theorem ky_inj {a b : List Int} (h : ky a = ky b) : a = b := by
  unfold ky at h
  exact List.map_inj_right (f := fun x : Int => (Sum.inl x : Key)) (fun x y e => Sum.inl.inj e) |>.mp h
def DN (x y : V) (H : Hp) (Q : VK) : Prop := ∃ a o, x = .ref a ∧ DGet H a y o ∧ Q (.bl (!o.isSome)) H
theorem rd_dnotin {σ : L2.St} {H : Hp} {ty td : TE} {Q : VK} (q : ty σ H fun y H1 => td σ H1 fun x H2 => DN x y H2 Q) : tDNotIn ty td σ H Q := q
/-- a dict whose keys are images: it holds those of ls, each once -/
structure Dk (H : Hp) (d : Addr) (ls : List (List Int)) : Prop where
  ex : ∃ kvs : List (List Key × V), H d = some (.dT kvs) ∧ kvs.map Prod.fst = ls.map ky
  nd : ls.Nodup
section
variable {H H' : Hp} {d b : Addr} {ls : List (List Int)} {es : List Int} {Q : VK} {R : Hp → Prop} {v : V}
theorem val_keys {es : List Int} : ∀ (kvs : List (List Key × V)) (ls : List (List Int)), kvs.map Prod.fst = ls.map ky → ((valV kvs (ky es)).isSome = true ↔ es ∈ ls)
  | [], [], _ => by simp [valV_nil]
  | [], _ :: _, h => by simp at h
  | _ :: _, [], h => by simp at h
  | kv :: r, l :: t, h => by
    rw [List.map_cons, List.map_cons] at h
    obtain ⟨h1, h2⟩ := List.cons.inj h
    by_cases z : kv.1 = ky es
    · rw [valV_pos z]
      refine ⟨fun _ => ?_, fun _ => rfl⟩
      rw [ky_inj (h1.symm.trans z)]
      exact List.mem_cons_self ..
    · rw [valV_neg z, val_keys r t h2, List.mem_cons]
      refine ⟨.inr, fun k => k.resolve_left fun e => z ?_⟩
      rw [e]
      exact h1
theorem Dk.nil (h : H d = some (.dT [])) : Dk H d [] := ⟨⟨[], h, rfl⟩, List.nodup_nil⟩
theorem Dk.same (k : Dk H d ls) (S : Same H H') : Dk H' d ls := ⟨by obtain ⟨kvs, h, e⟩ := k.ex; exact ⟨kvs, S _ _ h, e⟩, k.nd⟩
theorem Dk.mut (k : Dk H d ls) {l : Addr} {o : HO} (ne : d ≠ l) : Dk (upd H l o) d ls := ⟨by obtain ⟨kvs, h, e⟩ := k.ex; exact ⟨kvs, by rw [upd_ne ne]; exact h, e⟩, k.nd⟩
theorem rd_DN (k : Dk H d ls) (hb : H b = some (.tup (es.map V.int))) (q : ∀ c, (c = true ↔ es ∉ ls) → Q (.bl c) H) : DN (.ref d) (.ref b) H Q := by
  obtain ⟨kvs, h, e⟩ := k.ex
  refine ⟨d, _, rfl, DGet.t (k := ky es) h (by rw [ky_kV]; exact hb), q _ ?_⟩
  rw [← val_keys kvs ls e]
  cases (valV kvs (ky es)).isSome <;> simp
theorem rd_DPT (k : Dk H d ls) (hb : H b = some (.tup (es.map V.int))) (hl : ls.length < 1000) (q : ∀ H2 ls2, (∃ kvs, H2 = upd H d (.dT kvs)) → Dk H2 d ls2 → (es ∈ ls → ls2 = ls) → (es ∉ ls → ls2 = ls ++ [es]) → R H2) : DP (.ref d) (.ref b) v H R := by
  obtain ⟨kvs, h, e⟩ := k.ex
  have lk : kvs.length = ls.length := by
    have := congrArg List.length e
    rwa [List.length_map, List.length_map] at this
  refine ⟨d, _, rfl, DPut.t (k := ky es) h (by rw [ky_kV]; exact hb) (small1000 (by omega)), ?_⟩
  by_cases m : es ∈ ls
  · refine q _ ls ⟨_, rfl⟩ ⟨⟨_, upd_same, ?_⟩, k.nd⟩ (fun _ => rfl) (fun z => absurd m z)
    have s := (val_keys kvs ls e).mpr m
    unfold putK
    rw [if_pos (by rw [valV_any]; exact s), List.map_map, ← e]
    exact List.map_congr_left fun kv _ => by
      show (if kv.1 = ky es then (kv.1, v) else kv).1 = kv.1
      split <;> rfl
  · refine q _ (ls ++ [es]) ⟨_, rfl⟩ ⟨⟨_, upd_same, ?_⟩, List.nodup_append.mpr ⟨k.nd, List.nodup_cons.mpr ⟨List.not_mem_nil, List.nodup_nil⟩, fun a ha c hc => by
      rw [List.mem_singleton.mp hc]
      exact fun z => m (z ▸ ha)⟩⟩ (fun z => absurd z m) (fun _ => rfl)
    have s : valV kvs (ky es) = none := by
      cases z : valV kvs (ky es) with
      | none => rfl
      | some x => exact absurd ((val_keys kvs ls e).mp (by rw [z]; rfl)) m
    rw [putK_new v s, List.map_append, List.map_append, e]
    rfl
end
theorem Kt.mutT {H : Hp} {p : Addr} {kvs : List (List Key × V)} {o : HO} (h : H p = some (.dT kvs)) : Kt H (upd H p o) := fun a ys e => by
  rw [upd_ne (ne_of e h (by intro z; cases z))]
  exact e
/-! a table of places -/
def rowG (n k : Nat) (seen : List (Nat × Nat)) : List V := (List.range n).map fun b => V.bl (decide ((k, b) ∈ seen))
structure Grid (H : Hp) (g : Addr) (m n : Nat) (rws : List Addr) (seen : List (Nat × Nat)) : Prop where
  at_ : H g = some (.lst (rws.map V.ref))
  len : rws.length = m
  nd : rws.Nodup
  ng : g ∉ rws
  row : ∀ (k : Nat) r, rws[k]? = some r → H r = some (.lst (rowG n k seen))
section
variable {H H' : Hp} {g l : Addr} {m n k b : Nat} {rws : List Addr} {seen : List (Nat × Nat)}
theorem Grid.same (G : Grid H g m n rws seen) (S : Same H H') : Grid H' g m n rws seen := ⟨S _ _ G.at_, G.len, G.nd, G.ng, fun k r e => S _ _ (G.row k r e)⟩
theorem Grid.mut (G : Grid H g m n rws seen) {o : HO} (n1 : l ≠ g) (n2 : l ∉ rws) : Grid (upd H l o) g m n rws seen := ⟨by rw [upd_ne n1.symm]; exact G.at_, G.len, G.nd, G.ng, fun k r e => by
  have ne : r ≠ l := fun z => n2 (by rw [← z]; exact List.mem_of_getElem? e)
  rw [upd_ne ne]
  exact G.row k r e⟩
theorem Grid.get (G : Grid H g m n rws seen) (hk : k < m) : ∃ r, rws[k]? = some r ∧ r ∈ rws ∧ atI (rws.map V.ref) (k : Int) = some (.ref r) ∧ H r = some (.lst (rowG n k seen)) := by
  have e : rws[k]? = some (rws[k]'(by rw [G.len]; exact hk)) := List.getElem?_eq_getElem _
  exact ⟨_, e, List.mem_of_getElem? e, atI_nat (by rw [List.getElem?_map, e]; rfl), G.row k _ e⟩
theorem rowG_len : (rowG n k seen).length = n := by
  unfold rowG
  rw [List.length_map, List.length_range]
theorem rowG_at (hb : b < n) : atI (rowG n k seen) (b : Int) = some (.bl (decide ((k, b) ∈ seen))) := atI_nat (by unfold rowG; rw [List.getElem?_map, List.getElem?_range hb]; rfl)
theorem rowG_put (hb : b < n) : (rowG n k seen).set b (.bl true) = rowG n k (seen ++ [(k, b)]) := by
  refine List.ext_getElem? fun i => ?_
  by_cases hi : i < n
  · unfold rowG
    by_cases z : b = i
    · subst z
      rw [List.getElem?_set_self (by rw [List.length_map, List.length_range]; exact hb), List.getElem?_map, List.getElem?_range hi]
      show some (V.bl true) = some (V.bl _)
      rw [decide_eq_true (List.mem_append_right _ (List.mem_singleton.mpr rfl))]
    · rw [List.getElem?_set_ne z, List.getElem?_map, List.getElem?_map, List.getElem?_range hi]
      show some (V.bl _) = some (V.bl _)
      congr 2
      rw [decide_eq_decide, List.mem_append, List.mem_singleton]
      exact ⟨.inl, fun h => h.resolve_right fun y => z (congrArg Prod.snd y).symm⟩
  · rw [List.getElem?_eq_none (by rw [List.length_set, rowG_len]; omega), List.getElem?_eq_none (by rw [rowG_len]; omega)]
theorem rowG_other {j : Nat} (ne : j ≠ k) : rowG n j (seen ++ [(k, b)]) = rowG n j seen := by
  unfold rowG
  refine List.map_congr_left fun i _ => ?_
  show V.bl _ = V.bl _
  congr 1
  rw [decide_eq_decide, List.mem_append, List.mem_singleton]
  exact ⟨fun h => h.resolve_right fun y => ne (congrArg Prod.fst y), .inl⟩
theorem Grid.put (G : Grid H g m n rws seen) {r : Addr} (er : rws[k]? = some r) (hb : b < n) : Grid (upd H r (.lst ((rowG n k seen).set b (.bl true)))) g m n rws (seen ++ [(k, b)]) := by
  have mr := List.mem_of_getElem? er
  have ng : g ≠ r := fun z => G.ng (by rw [z]; exact mr)
  refine ⟨by rw [upd_ne ng]; exact G.at_, G.len, G.nd, G.ng, fun j q e => ?_⟩
  by_cases z : j = k
  · subst z
    rw [er] at e
    cases e
    rw [upd_same, rowG_put hb]
  · have ne : q ≠ r := fun y => z (by
      subst y
      obtain ⟨h1, e1⟩ := List.getElem?_eq_some_iff.mp e
      obtain ⟨h2, e2⟩ := List.getElem?_eq_some_iff.mp er
      exact (List.getElem_inj G.nd).mp (e1.trans e2.symm))
    rw [upd_ne ne, rowG_other z]
    exact G.row j q e
end
def plV (p : Nat × Nat) : List V := [.int (p.1 : Nat), .int (p.2 : Nat)]
/-- a comprehension that makes lists: none of them is its own -/
theorem lc_acc3 {J : It} {n : Nat} {G : Hp → Prop} {Y : Nat → Hp → V → Hp → Prop} (w : Walk J n G Y) {g : TG} {tt : TT} {te : TE} {vs : List Nat} {σ : L2.St} {H0 : Hp} {Q : VK} (Pv : Addr → Nat → List V → Hp → Prop) (p0 : ∀ D H, Pv D 0 [] H)
    (st : ∀ D i acc H H', (∀ a, a ≠ D → H' a = H a) → Pv D i acc H → Pv D i acc H') (sm : ∀ D i acc H, i ≤ n → Pv D i acc H → acc.length < 1000) (hG : ∀ H, Same H0 H → G H)
    (hs : ∀ D i x H H' acc (Qc : VK) (R : Hp → Prop), i < n → Same H0 H → H D = some (.lst acc) → Pv D i acc H → Y i H x H' → (∀ y H4, Same H H4 → Pv D (i + 1) (acc ++ [y]) H4 → Qc y H4) → (∀ H4, Same H H4 → Pv D (i + 1) acc H4 → R H4) →
      g x (wipe σ vs) H' fun σ2 H2 => wipe σ2 vs = wipe σ vs ∧ tt σ2 H2 fun b H3 => if b = true then te σ2 H3 Qc else R H3)
    (hd : ∀ H D acc, Same H0 H → H0 D = none → H D = some (.lst acc) → Pv D n acc H → Q (.ref D) H) : Lc J g tt te vs σ H0 Q := fun D nD =>
  lc_it w (Qd := fun H => Q (.ref D) H) (fun i H => Same H0 H ∧ i ≤ n ∧ ∃ acc, H D = some (.lst acc) ∧ Pv D i acc H) ⟨same_new (Same.refl _) nD, Nat.zero_le _, [], upd_same, p0 _ _⟩ (fun i H _ p => hG H p.1)
    (fun i x H H' hi p y => by
      obtain ⟨w0, hin, acc, hD, pa⟩ := p
      refine hs D i x H H' acc _ _ hi w0 hD pa y (fun z H4 S4 pz => ?_) (fun H4 S4 pz => ⟨w0.trans S4, hi, acc, S4 _ _ hD, pz⟩)
      have hD4 := S4 _ _ hD
      exact ⟨acc, hD4, small1000 (by have := sm D i acc H (by omega) pa; omega), same_mut (w0.trans S4) nD, hi, _, upd_same, st _ _ _ _ _ (fun a ne => upd_ne ne) pz⟩)
    (fun H p => by
      obtain ⟨w0, _, acc, hD, pa⟩ := p
      exact hd H D acc w0 nD hD pa)
/-! the least place that spoils -/
def Bad (n : Nat) (ps : List (Int × Int)) (k b : Nat) : Prop := k ≤ ps.length ∧ b < n ∧ (b : Int) ∈ at_ n ps ps.length ∧ src n ps k b ≠ b
def Due (n : Nat) (ps : List (Int × Int)) (r : V) (H : Hp) : Prop := (r = .non ∧ TopOk n ps) ∨ ∃ (D : Addr) (k b : Nat), r = .ref D ∧ H D = some (.tup [.int k, .int b]) ∧ Bad n ps k b ∧ (∀ k', k' < k → ∀ b', ¬ Bad n ps k' b') ∧ ∀ b', b' < b → ¬ Bad n ps k b'
theorem Due.same {n : Nat} {ps : List (Int × Int)} {r : V} {H H' : Hp} (d : Due n ps r H) (S : Same H H') : Due n ps r H' := by
  rcases d with d | ⟨D, k, b, e, h, x⟩
  · exact .inl d
  · exact .inr ⟨D, k, b, e, S _ _ h, x⟩
theorem topOk_of {n : Nat} {ps : List (Int × Int)} (h : ∀ k b, ¬ Bad n ps k b) : TopOk n ps := fun k hk b hb hm => by
  by_cases z : src n ps k b = b
  · exact z
  · exact absurd ⟨hk, hb, hm, z⟩ (h k b)
/-! how many come to a block -/
open Classical in
noncomputable def cnT (n : Nat) (ps : List (Int × Int)) (i b : Nat) : Nat := ((List.range i).filter fun v => decide (Rch (nxT n ps) (0, v) (ps.length, b))).length
open Classical in
theorem cnT_yes {n i b : Nat} {ps : List (Int × Int)} (h : Rch (nxT n ps) (0, i) (ps.length, b)) : cnT n ps (i + 1) b = cnT n ps i b + 1 := by
  unfold cnT
  rw [List.range_succ, List.filter_append, List.length_append, List.filter_cons_of_pos (p := fun v => decide (Rch (nxT n ps) (0, v) (ps.length, b))) (decide_eq_true h)]
  rfl
open Classical in
theorem cnT_no {n i b : Nat} {ps : List (Int × Int)} (h : ¬ Rch (nxT n ps) (0, i) (ps.length, b)) : cnT n ps (i + 1) b = cnT n ps i b := by
  unfold cnT
  rw [List.range_succ, List.filter_append, List.length_append, List.filter_cons_of_neg (p := fun v => decide (Rch (nxT n ps) (0, v) (ps.length, b))) (by rw [decide_eq_true_eq]; exact h)]
  rfl
open Classical in
theorem cnT_le (n : Nat) (ps : List (Int × Int)) (i b : Nat) : cnT n ps i b ≤ i := by
  unfold cnT
  have := List.length_filter_le (fun v => decide (Rch (nxT n ps) (0, v) (ps.length, b))) (List.range i)
  rw [List.length_range] at this
  exact this
theorem nodup_one {l : List Nat} (nd : l.Nodup) {a : Nat} (ha : a ∈ l) : l.length = 1 ↔ ∀ x ∈ l, ∀ y ∈ l, x = y := by
  match l, nd, ha with
  | [x], _, _ => exact ⟨fun _ p hp q hq => by rw [List.mem_singleton.mp hp, List.mem_singleton.mp hq], fun _ => rfl⟩
  | x :: y :: r, nd, _ =>
    refine ⟨fun h => by simp at h, fun h => ?_⟩
    have e := h x (List.mem_cons_self ..) y (List.mem_cons_of_mem _ (List.mem_cons_self ..))
    obtain ⟨n1, _⟩ := List.nodup_cons.mp nd
    exact absurd (e ▸ List.mem_cons_self ..) n1
open Classical in
theorem cnT_top {n : Nat} {ps : List (Int × Int)} (ok : ∀ p ∈ ps, PairOk n p) : (∀ b, b < n → cnT n ps n b = 1) ↔ TopOk n ps := by
  rw [top_one ok]
  have key : ∀ b, b < n → (cnT n ps n b = 1 ↔ ∀ v w, v < n → w < n → Rch (nxT n ps) (0, v) (ps.length, b) → Rch (nxT n ps) (0, w) (ps.length, b) → v = w) := fun b hb => by
    obtain ⟨v, hv, r⟩ := top_reach ok hb
    unfold cnT
    have nd : ((List.range n).filter fun v => decide (Rch (nxT n ps) (0, v) (ps.length, b))).Nodup := List.nodup_range.filter _
    have mem : ∀ x, x ∈ ((List.range n).filter fun v => decide (Rch (nxT n ps) (0, v) (ps.length, b))) ↔ x < n ∧ Rch (nxT n ps) (0, x) (ps.length, b) := fun x => by
      rw [List.mem_filter, List.mem_range, decide_eq_true_eq]
    rw [nodup_one nd ((mem v).mpr ⟨hv, r⟩)]
    exact ⟨fun h x y hx hy rx ry => h x ((mem x).mpr ⟨hx, rx⟩) y ((mem y).mpr ⟨hy, ry⟩), fun h x hx y hy => h x y ((mem x).mp hx).1 ((mem y).mp hy).1 ((mem x).mp hx).2 ((mem y).mp hy).2⟩
  exact ⟨fun h x hx => (key x hx).mp (h x hx), fun h x hx => (key x hx).mpr (h x hx)⟩
noncomputable def manI (n : Nat) (ps : List (Int × Int)) (i j : Nat) : List Int := (List.range n).map fun b => ((if b < j then cnT n ps (i + 1) b else cnT n ps i b : Nat) : Int)
theorem manI_len {n i j : Nat} {ps : List (Int × Int)} : (manI n ps i j).length = n := by
  unfold manI
  rw [List.length_map, List.length_range]
theorem manI_get {n i j b : Nat} {ps : List (Int × Int)} (hb : b < n) : (manI n ps i j)[b]? = some ((if b < j then cnT n ps (i + 1) b else cnT n ps i b : Nat) : Int) := by
  unfold manI
  rw [List.getElem?_map, List.getElem?_range hb]
  rfl
theorem manI_set {n i j : Nat} {ps : List (Int × Int)} (hj : j < n) : (manI n ps i j).set j ((cnT n ps (i + 1) j : Nat) : Int) = manI n ps i (j + 1) := by
  refine List.ext_getElem? fun b => ?_
  by_cases hb : b < n
  · rw [manI_get hb]
    by_cases z : j = b
    · subst z
      rw [List.getElem?_set_self (by rw [manI_len]; exact hj), if_pos (by omega)]
    · rw [List.getElem?_set_ne z, manI_get hb]
      by_cases y : b < j
      · rw [if_pos y, if_pos (by omega)]
      · rw [if_neg y, if_neg (by omega)]
  · rw [List.getElem?_eq_none (by rw [List.length_set, manI_len]; omega), List.getElem?_eq_none (by rw [manI_len]; omega)]
theorem manI_end (n : Nat) (ps : List (Int × Int)) (i : Nat) : manI n ps i n = manI n ps (i + 1) 0 := by
  refine List.ext_getElem? fun b => ?_
  by_cases hb : b < n
  · rw [manI_get hb, manI_get hb, if_pos hb, if_neg (by omega)]
  · rw [List.getElem?_eq_none (by rw [manI_len]; omega), List.getElem?_eq_none (by rw [manI_len]; omega)]
theorem manI_0 (n : Nat) (ps : List (Int × Int)) : manI n ps 0 0 = List.replicate n 0 := by
  refine List.ext_getElem? fun b => ?_
  by_cases hb : b < n
  · rw [manI_get hb, List.getElem?_replicate, if_pos hb, if_neg (by omega)]
    rfl
  · rw [List.getElem?_eq_none (by rw [manI_len]; omega), List.getElem?_eq_none (by rw [List.length_replicate]; omega)]
theorem eqv_intsL : ∀ (a b : List Int), PyData.eqv (.list (a.map PyData.int)) (.list (b.map PyData.int)) = decide (a = b)
  | [], [] => rfl
  | [], _ :: _ => rfl
  | _ :: _, [] => rfl
  | x :: r, y :: t => by
    have ih := eqv_intsL r t
    have e : PyData.eqv (.list ((x :: r).map PyData.int)) (.list ((y :: t).map PyData.int)) = (decide (x = y) && PyData.eqv (.list (r.map PyData.int)) (.list (t.map PyData.int))) := rfl
    rw [e, ih, Bool.eq_iff_iff, Bool.and_eq_true, decide_eq_true_eq, decide_eq_true_eq, decide_eq_true_eq, List.cons.injEq]
theorem rd_eqL {K : PySem.W.Frag} {H : Hp} {Q : VK} {p p2 : Addr} {xs ys : List Int} (h : H p = some (.lst (xs.map V.int))) (h2 : H p2 = some (.lst (ys.map V.int))) (q : Q (.bl (decide (xs = ys))) H) : rEqD K (.ref p) (.ref p2) H Q :=
  ⟨_, _, dp_ints2 h, dp_ints2 h2, (sh_ints2 _).shaped (by decide), (sh_ints2 _).shaped (by decide), by rw [eqv_intsL]; exact q⟩
theorem man_one {n : Nat} {ps : List (Int × Int)} (ok : ∀ p ∈ ps, PairOk n p) : manI n ps n 0 = List.replicate n 1 ↔ TopOk n ps := by
  rw [← cnT_top ok]
  constructor
  · intro h b hb
    have e := congrArg (fun l : List Int => l[b]?) h
    have e2 : (manI n ps n 0)[b]? = (List.replicate n (1 : Int))[b]? := e
    rw [manI_get hb, List.getElem?_replicate, if_pos hb, if_neg (by omega)] at e2
    have := Option.some.inj e2
    omega
  · intro h
    refine List.ext_getElem? fun b => ?_
    by_cases hb : b < n
    · rw [manI_get hb, List.getElem?_replicate, if_pos hb, if_neg (by omega), h b hb]
      rfl
    · rw [List.getElem?_eq_none (by rw [manI_len]; omega), List.getElem?_eq_none (by rw [List.length_replicate]; omega)]
end Rv
/-! late lines -/
namespace Rv
open PySem PySem.Spec PyProof.Rows L2
/-- the last of the first k lines that writes on b, or -1 -/
def lw (ps : List (Int × Int)) (b : Int) : Nat → Int
  | 0 => -1
  | k + 1 => match ps[k]? with
    | some p => if p.1 = b then (k : Int) else lw ps b k
    | none => lw ps b k
section
variable {n : Nat} {ps : List (Int × Int)}
theorem lw_next {k : Nat} (h : k < ps.length) (b : Int) : lw ps b (k + 1) = if ps[k].1 = b then (k : Int) else lw ps b k := by
  show (match ps[k]? with | some p => if p.1 = b then (k : Int) else lw ps b k | none => lw ps b k) = _
  rw [List.getElem?_eq_getElem h]
theorem lw_lt (b : Int) : ∀ k, -1 ≤ lw ps b k ∧ lw ps b k < k
  | 0 => ⟨Int.le_refl _, by show (-1 : Int) < 0; decide⟩
  | k + 1 => by
    have ih := lw_lt b k
    show -1 ≤ (match ps[k]? with | some p => if p.1 = b then (k : Int) else lw ps b k | none => lw ps b k) ∧ (match ps[k]? with | some p => if p.1 = b then (k : Int) else lw ps b k | none => lw ps b k) < _
    split
    · split <;> omega
    · omega
theorem lw_ge {j : Nat} (hj : j < ps.length) : ∀ k, j < k → k ≤ ps.length → (j : Int) ≤ lw ps ps[j].1 k
  | 0, h, _ => absurd h (Nat.not_lt_zero j)
  | k + 1, h, hk => by
    rw [lw_next (by omega)]
    by_cases z : j = k
    · subst z
      rw [if_pos rfl]
      exact Int.le_refl _
    · have ih := lw_ge hj k (by omega) (by omega)
      split <;> omega
theorem lw_hit {b : Int} : ∀ k, k ≤ ps.length → ∀ j : Nat, lw ps b k = j → ∃ h : j < ps.length, ps[j].1 = b
  | 0, _, j, e => by
    have : (-1 : Int) = j := e
    omega
  | k + 1, hk, j, e => by
    rw [lw_next (by omega)] at e
    split at e
    · rename_i h
      have : j = k := by omega
      subst this
      exact ⟨by omega, h⟩
    · exact lw_hit k (by omega) j e
def LBad (n : Nat) (ps : List (Int × Int)) (i : Nat) : Prop := ∃ h : i < ps.length, lw ps ps[i].1 ps.length ≤ lw ps ps[i].2 ps.length ∨ src n ps ps.length ps[i].2.toNat ≠ src n ps ps.length ps[i].1.toNat
def LateOk (n : Nat) (ps : List (Int × Int)) : Prop := ∀ i, ¬ LBad n ps i
theorem LateOk.get (t : LateOk n ps) {i : Nat} (h : i < ps.length) : lw ps ps[i].2 ps.length < lw ps ps[i].1 ps.length ∧ src n ps ps.length ps[i].2.toNat = src n ps ps.length ps[i].1.toNat := by
  have k := t i
  by_cases a : lw ps ps[i].2 ps.length < lw ps ps[i].1 ps.length
  · by_cases b : src n ps ps.length ps[i].2.toNat = src n ps ps.length ps[i].1.toNat
    · exact ⟨a, b⟩
    · exact absurd ⟨h, .inr b⟩ k
  · exact absurd ⟨h, .inl (by omega)⟩ k
/-- a block that is not written from k on keeps its value -/
theorem src_keep (ok : ∀ p ∈ ps, PairOk n p) {b : Nat} (hb : b < n) : ∀ d k, k + d = ps.length → lw ps (b : Int) ps.length < k → src n ps ps.length b = src n ps k b
  | 0, k, e, _ => by rw [← e, Nat.add_zero]
  | d + 1, k, e, h => by
    have hk : k < ps.length := by omega
    have ih := src_keep ok hb d (k + 1) (by omega) (by omega)
    rw [ih, src_next ok hk hb]
    by_cases z : (b : Int) = ps[k].1
    · have g := lw_ge hk ps.length hk (Nat.le_refl _)
      rw [← z] at g
      omega
    · rw [if_neg z]
def nxL (ps : List (Int × Int)) (p : Nat × Nat) : List (Nat × Nat) :=
  (((ps.take p.1).filter fun q => decide (q.2 = (p.2 : Int))).map fun q => (p.1, q.1.toNat)) ++ (match ps[p.1]? with
    | some q => (if (p.2 : Int) ≠ q.1 then [(p.1 + 1, p.2)] else []) ++ (if (p.2 : Int) = q.2 then [(p.1 + 1, q.1.toNat)] else [])
    | none => [])
theorem nxL_mem {p q : Nat × Nat} : q ∈ nxL ps p ↔ (∃ (j : Nat) (h : j < ps.length), j < p.1 ∧ ps[j].2 = (p.2 : Int) ∧ q = (p.1, ps[j].1.toNat)) ∨ (∃ (h : p.1 < ps.length), ((p.2 : Int) ≠ ps[p.1].1 ∧ q = (p.1 + 1, p.2)) ∨ ((p.2 : Int) = ps[p.1].2 ∧ q = (p.1 + 1, ps[p.1].1.toNat))) := by
  unfold nxL
  rw [List.mem_append]
  refine or_congr ?_ ?_
  · rw [List.mem_map]
    constructor
    · rintro ⟨r, hr, rfl⟩
      rw [List.mem_filter, decide_eq_true_eq] at hr
      obtain ⟨h1, h2⟩ := hr
      obtain ⟨j, hj, ej⟩ := List.mem_iff_getElem.mp h1
      rw [List.length_take] at hj
      rw [List.getElem_take] at ej
      subst ej
      exact ⟨j, by omega, by omega, h2, rfl⟩
    · rintro ⟨j, h, hj, e, rfl⟩
      refine ⟨ps[j], ?_, rfl⟩
      rw [List.mem_filter, decide_eq_true_eq]
      refine ⟨List.mem_iff_getElem.mpr ⟨j, by rw [List.length_take]; omega, List.getElem_take ..⟩, e⟩
  · by_cases h : p.1 < ps.length
    · rw [List.getElem?_eq_getElem h]
      simp only [List.mem_append]
      constructor
      · rintro (k | k)
        · split at k
          · rename_i z
            exact ⟨h, .inl ⟨z, by simpa using k⟩⟩
          · simp at k
        · split at k
          · rename_i z
            exact ⟨h, .inr ⟨z, by simpa using k⟩⟩
          · simp at k
      · rintro ⟨_, ⟨z, k⟩ | ⟨z, k⟩⟩
        · exact .inl (by rw [if_pos z, k]; simp)
        · exact .inr (by rw [if_pos z, k]; simp)
    · rw [List.getElem?_eq_none (by omega)]
      exact ⟨fun k => absurd k List.not_mem_nil, fun ⟨k, _⟩ => absurd k h⟩
theorem rchL_in (ok : ∀ p ∈ ps, PairOk n p) {v : Nat} (hv : v < n) {p : Nat × Nat} (r : Rch (nxL ps) (0, v) p) : p.1 ≤ ps.length ∧ p.2 < n := by
  induction r with
  | refl => exact ⟨Nat.zero_le _, hv⟩
  | @step p q h m ih =>
    rcases nxL_mem.mp m with ⟨j, hj, _, _, e⟩ | ⟨h1, ⟨_, e⟩ | ⟨_, e⟩⟩
    · rw [e]
      have okp := ok _ (List.getElem_mem hj)
      have t0 := okp.t0
      have t1 := okp.t1
      refine ⟨ih.1, ?_⟩
      show ps[j].1.toNat < n
      omega
    · rw [e]
      exact ⟨h1, ih.2⟩
    · rw [e]
      have okp := ok _ (List.getElem_mem h1)
      have t0 := okp.t0
      have t1 := okp.t1
      refine ⟨h1, ?_⟩
      show ps[p.1].1.toNat < n
      omega
/-- what reaches a block behind its last write is its last number -/
theorem late_place (ok : ∀ p ∈ ps, PairOk n p) (t : LateOk n ps) {v : Nat} (hv : v < n) {p : Nat × Nat} (r : Rch (nxL ps) (0, v) p) : lw ps (p.2 : Int) ps.length < p.1 → src n ps ps.length p.2 = v := by
  induction r with
  | refl =>
    intro h
    have h2 : lw ps (v : Int) ps.length < 0 := h
    have e := src_keep ok hv ps.length 0 (by omega) (by exact_mod_cast h2)
    show src n ps ps.length v = v
    rw [e, src0 hv]
  | @step p q h m ih =>
    have b := rchL_in ok hv h
    intro hm
    rcases nxL_mem.mp m with ⟨j, hj, jk, es, e⟩ | ⟨h1, ⟨z, e⟩ | ⟨z, e⟩⟩
    · rw [e] at hm ⊢
      have okp := ok _ (List.getElem_mem hj)
      have t0 := okp.t0
      obtain ⟨g1, g2⟩ := t.get hj
      have hm2 : lw ps ((ps[j].1.toNat : Nat) : Int) ps.length < (p.1 : Int) := hm
      rw [show ((ps[j].1.toNat : Nat) : Int) = ps[j].1 by omega] at hm2
      show src n ps ps.length ps[j].1.toNat = v
      rw [← g2, show ps[j].2.toNat = p.2 by omega]
      exact ih (by rw [← es]; omega)
    · rw [e] at hm ⊢
      have hm2 : lw ps (p.2 : Int) ps.length < ((p.1 + 1 : Nat) : Int) := hm
      show src n ps ps.length p.2 = v
      refine ih ?_
      by_cases y : lw ps (p.2 : Int) ps.length = (p.1 : Int)
      · obtain ⟨_, k⟩ := lw_hit ps.length (Nat.le_refl _) p.1 y
        exact absurd k.symm z
      · omega
    · rw [e] at hm ⊢
      have okp := ok _ (List.getElem_mem h1)
      have t0 := okp.t0
      obtain ⟨g1, g2⟩ := t.get h1
      have hm2 : lw ps ((ps[p.1].1.toNat : Nat) : Int) ps.length < ((p.1 + 1 : Nat) : Int) := hm
      rw [show ((ps[p.1].1.toNat : Nat) : Int) = ps[p.1].1 by omega] at hm2
      show src n ps ps.length ps[p.1].1.toNat = v
      rw [← g2, show ps[p.1].2.toNat = p.2 by omega]
      exact ih (by rw [z]; omega)
/-- on from a place, by the undisturbed run -/
theorem rchL_on (ok : ∀ p ∈ ps, PairOk n p) {s : Nat × Nat} {k c : Nat} (hc : c < n) (r : Rch (nxL ps) s (k, c)) {b : Nat} (hb : b < n) : ∀ d m, k + d = m → m ≤ ps.length → (∀ j (h : j < ps.length), k ≤ j → j < m → ps[j].1 ≠ (c : Int)) → Rch (nxL ps) s (m, c)
  | 0, m, e, _, _ => by rw [← e]; exact r
  | d + 1, m, e, hm, no => by
    have ih := rchL_on ok hc r hb d (k + d) rfl (by omega) fun j h h1 h2 => no j h h1 (by omega)
    have hk : k + d < ps.length := by omega
    rw [show m = k + d + 1 by omega]
    exact .step ih (nxL_mem.mpr (.inr ⟨hk, .inl ⟨fun z => no (k + d) hk (by omega) (by omega) z.symm, rfl⟩⟩))
/-- the undisturbed run brings each value to its place -/
theorem rchL_run (ok : ∀ p ∈ ps, PairOk n p) {v : Nat} (hv : v < n) : ∀ k, k ≤ ps.length → ∀ b, b < n → src n ps k b = v → Rch (nxL ps) (0, v) (k, b)
  | 0, _, b, hb, e => by
    rw [src0 hb] at e
    rw [show b = v by omega]
    exact .refl
  | k + 1, hk, b, hb, e => by
    have hk2 : k < ps.length := by omega
    have okp := ok _ (List.getElem_mem hk2)
    rw [src_next ok hk2 hb] at e
    by_cases z : (b : Int) = ps[k].1
    · rw [if_pos z] at e
      have s0 := okp.s0
      have s1 := okp.s1
      have ih := rchL_run ok hv k (by omega) ps[k].2.toNat (by omega) e
      refine .step ih (nxL_mem.mpr (.inr ⟨hk2, .inr ⟨by show ((ps[k].2.toNat : Nat) : Int) = ps[k].2; omega, ?_⟩⟩))
      show (k + 1, b) = (k + 1, ps[k].1.toNat)
      rw [show ps[k].1.toNat = b by omega]
    · rw [if_neg z] at e
      exact .step (rchL_run ok hv k (by omega) b hb e) (nxL_mem.mpr (.inr ⟨hk2, .inl ⟨z, rfl⟩⟩))
def NoIdle (n : Nat) (ps : List (Int × Int)) : Prop := ∀ i (h : i < ps.length), src n ps i ps[i].1.toNat ≠ src n ps i ps[i].2.toNat
/-- only one number comes to each block -/
def OneEnd (n : Nat) (nx : Nat × Nat → List (Nat × Nat)) (k : Nat) : Prop := ∀ x, x < n → ∀ v w, v < n → w < n → Rch nx (0, v) (k, x) → Rch nx (0, w) (k, x) → v = w
theorem late_one (ok : ∀ p ∈ ps, PairOk n p) (t : LateOk n ps) : OneEnd n (nxL ps) ps.length := fun x hx v w hv hw r1 r2 => by
  have h := (lw_lt (ps := ps) (x : Int) ps.length).2
  have e1 := late_place ok t hv r1 h
  have e2 := late_place ok t hw r2 h
  have e3 : src n ps ps.length x = v := e1
  have e4 : src n ps ps.length x = w := e2
  omega
theorem one_late (ok : ∀ p ∈ ps, PairOk n p) (ni : NoIdle n ps) (u : OneEnd n (nxL ps) ps.length) : LateOk n ps := fun i bad => by
  obtain ⟨hi, bad⟩ := bad
  have okp := ok _ (List.getElem_mem hi)
  have t0 := okp.t0
  have t1 := okp.t1
  have s0 := okp.s0
  have s1 := okp.s1
  have ne := okp.ne
  generalize et : ps[i].1.toNat = tt at *
  generalize es : ps[i].2.toNat = ss at *
  have ht : tt < n := by omega
  have hs : ss < n := by omega
  have ct : ps[i].1 = (tt : Int) := by omega
  have cs : ps[i].2 = (ss : Int) := by omega
  rw [ct, cs] at bad
  have dF := src_in ok (k := ps.length) hs
  have dT := src_in ok (k := ps.length) ht
  obtain ⟨fs, efs⟩ : ∃ c : Nat, src n ps ps.length ss = c := ⟨(src n ps ps.length ss).toNat, by omega⟩
  obtain ⟨ft, eft⟩ : ∃ c : Nat, src n ps ps.length tt = c := ⟨(src n ps ps.length tt).toNat, by omega⟩
  have rt := rchL_run ok (v := ft) (by omega) ps.length (Nat.le_refl _) tt ht eft
  by_cases ef : fs = ft
  · subst ef
    have bad2 : lw ps (tt : Int) ps.length ≤ lw ps (ss : Int) ps.length := by
      rcases bad with b | b
      · exact b
      · exact absurd (efs.trans eft.symm) b
    have g1 := lw_ge hi ps.length hi (Nat.le_refl _)
    rw [ct] at g1
    obtain ⟨m, em⟩ : ∃ m : Nat, lw ps (ss : Int) ps.length = m := ⟨(lw ps (ss : Int) ps.length).toNat, by omega⟩
    obtain ⟨hm, hit⟩ := lw_hit ps.length (Nat.le_refl _) m em
    have lt : lw ps (tt : Int) ps.length < m := by
      by_cases z : lw ps (tt : Int) ps.length = m
      · obtain ⟨_, h2⟩ := lw_hit ps.length (Nat.le_refl _) m z
        exact absurd (ct.trans (h2.symm.trans (hit.trans cs.symm))) ne
      · omega
    have okm := ok _ (List.getElem_mem hm)
    have e1 : src n ps (m + 1) ss = src n ps m ps[m].2.toNat := by rw [src_next ok hm hs, if_pos hit.symm]
    have e2 := src_keep ok hs (ps.length - (m + 1)) (m + 1) (by omega) (by omega)
    have nim := ni m hm
    rw [show ps[m].1.toNat = ss by omega, ← e1, ← e2, efs] at nim
    have dc := src_in ok (k := m) hs
    obtain ⟨c, ec⟩ : ∃ c : Nat, src n ps m ss = c := ⟨(src n ps m ss).toNat, by omega⟩
    have hc : c < n := by omega
    have r1 := rchL_run ok (v := c) hc m (by omega) ss hs ec
    have r2 : Rch (nxL ps) (0, c) (m, tt) := .step r1 (nxL_mem.mpr (.inl ⟨i, hi, by show i < m; omega, cs, by show (m, tt) = (m, ps[i].1.toNat); rw [et]⟩))
    have r3 := rchL_on ok ht r2 ht (ps.length - m) ps.length (by omega) (Nat.le_refl _) fun j h h1 _ e => by
      have g := lw_ge h ps.length h (Nat.le_refl _)
      rw [e] at g
      omega
    have z := u tt ht c fs hc (by omega) r3 rt
    rw [ec, z] at nim
    exact nim rfl
  · have r1 := rchL_run ok (v := fs) (by omega) ps.length (Nat.le_refl _) ss hs efs
    have r2 : Rch (nxL ps) (0, fs) (ps.length, tt) := .step r1 (nxL_mem.mpr (.inl ⟨i, hi, hi, cs, by show (ps.length, tt) = (ps.length, ps[i].1.toNat); rw [et]⟩))
    exact ef (u tt ht fs ft (by omega) (by omega) r2 rt)
theorem oneL_reach (ok : ∀ p ∈ ps, PairOk n p) {x : Nat} (hx : x < n) : ∃ v, v < n ∧ Rch (nxL ps) (0, v) (ps.length, x) := by
  have d := src_in ok (k := ps.length) hx
  exact ⟨(src n ps ps.length x).toNat, by omega, rchL_run ok (by omega) _ (Nat.le_refl _) x hx (by omega)⟩
/-! the same by images -/
def nxLI (ps : List (Int × Int)) (p : Nat × List Int) : List (Nat × List Int) := ((ps.take p.1).map fun q => (p.1, aft q p.2)) ++ (match ps[p.1]? with | some q => [(p.1 + 1, aft q p.2)] | none => [])
theorem nxLI_mem {p q : Nat × List Int} : q ∈ nxLI ps p ↔ (∃ (j : Nat) (h : j < ps.length), j < p.1 ∧ q = (p.1, aft ps[j] p.2)) ∨ (∃ (h : p.1 < ps.length), q = (p.1 + 1, aft ps[p.1] p.2)) := by
  unfold nxLI
  rw [List.mem_append]
  refine or_congr ?_ ?_
  · rw [List.mem_map]
    constructor
    · rintro ⟨r, hr, rfl⟩
      obtain ⟨j, hj, ej⟩ := List.mem_iff_getElem.mp hr
      rw [List.length_take] at hj
      rw [List.getElem_take] at ej
      subst ej
      exact ⟨j, by omega, by omega, rfl⟩
    · rintro ⟨j, h, hj, rfl⟩
      exact ⟨ps[j], List.mem_iff_getElem.mpr ⟨j, by rw [List.length_take]; omega, List.getElem_take ..⟩, rfl⟩
  · by_cases h : p.1 < ps.length
    · rw [List.getElem?_eq_getElem h]
      exact ⟨fun k => ⟨h, List.mem_singleton.mp k⟩, fun ⟨_, k⟩ => List.mem_singleton.mpr k⟩
    · rw [List.getElem?_eq_none (by omega)]
      exact ⟨fun k => absurd k List.not_mem_nil, fun ⟨k, _⟩ => absurd k h⟩
theorem aft_getD {q : Int × Int} {es : List Int} (ok : PairOk n q) (le : es.length = n) {b : Nat} (hb : b < n) : (aft q es).getD b 0 = if (b : Int) = q.1 then es.getD q.2.toNat 0 else es.getD b 0 := by
  unfold aft
  have t0 := ok.t0
  have t1 := ok.t1
  by_cases z : (b : Int) = q.1
  · rw [if_pos z, List.getD_eq_getElem?_getD, show q.1.toNat = b by omega, List.getElem?_set_self (by omega)]
    rfl
  · rw [if_neg z, List.getD_eq_getElem?_getD, List.getElem?_set_ne (by omega), ← List.getD_eq_getElem?_getD]
theorem imgL_in (ok : ∀ p ∈ ps, PairOk n p) {p : Nat × List Int} (r : Rch (nxLI ps) (0, own n) p) : p.1 ≤ ps.length ∧ p.2.length = n ∧ ∀ b, b < n → ∃ v, v < n ∧ p.2.getD b 0 = (v : Int) ∧ Rch (nxL ps) (0, v) (p.1, b) := by
  induction r with
  | refl =>
    refine ⟨Nat.zero_le _, own_len n, fun b hb => ⟨b, hb, ?_, .refl⟩⟩
    have z := own_getD (n := n) (x := (b : Int)) (by omega) (by omega)
    rw [Int.toNat_natCast] at z
    exact z
  | @step p q h m ih =>
    obtain ⟨i1, i2, i3⟩ := ih
    rcases nxLI_mem.mp m with ⟨j, hj, jk, e⟩ | ⟨h1, e⟩
    · rw [e]
      have okp := ok _ (List.getElem_mem hj)
      have t0 := okp.t0
      have s0 := okp.s0
      have s1 := okp.s1
      refine ⟨i1, by show (aft ps[j] p.2).length = n; rw [aft_len]; exact i2, fun b hb => ?_⟩
      show ∃ v, v < n ∧ (aft ps[j] p.2).getD b 0 = (v : Int) ∧ Rch (nxL ps) (0, v) (p.1, b)
      rw [aft_getD okp i2 hb]
      by_cases z : (b : Int) = ps[j].1
      · rw [if_pos z]
        obtain ⟨v, hv, ev, rv⟩ := i3 ps[j].2.toNat (by omega)
        refine ⟨v, hv, ev, .step rv (nxL_mem.mpr (.inl ⟨j, hj, jk, by show ps[j].2 = ((ps[j].2.toNat : Nat) : Int); omega, ?_⟩))⟩
        show (p.1, b) = (p.1, ps[j].1.toNat)
        rw [show ps[j].1.toNat = b by omega]
      · rw [if_neg z]
        exact i3 b hb
    · rw [e]
      have okp := ok _ (List.getElem_mem h1)
      have t0 := okp.t0
      have s0 := okp.s0
      have s1 := okp.s1
      refine ⟨h1, by show (aft ps[p.1] p.2).length = n; rw [aft_len]; exact i2, fun b hb => ?_⟩
      show ∃ v, v < n ∧ (aft ps[p.1] p.2).getD b 0 = (v : Int) ∧ Rch (nxL ps) (0, v) (p.1 + 1, b)
      rw [aft_getD okp i2 hb]
      by_cases z : (b : Int) = ps[p.1].1
      · rw [if_pos z]
        obtain ⟨v, hv, ev, rv⟩ := i3 ps[p.1].2.toNat (by omega)
        refine ⟨v, hv, ev, .step rv (nxL_mem.mpr (.inr ⟨h1, .inr ⟨by show ((ps[p.1].2.toNat : Nat) : Int) = ps[p.1].2; omega, ?_⟩⟩))⟩
        show (p.1 + 1, b) = (p.1 + 1, ps[p.1].1.toNat)
        rw [show ps[p.1].1.toNat = b by omega]
      · rw [if_neg z]
        obtain ⟨v, hv, ev, rv⟩ := i3 b hb
        exact ⟨v, hv, ev, .step rv (nxL_mem.mpr (.inr ⟨h1, .inl ⟨z, rfl⟩⟩))⟩
theorem imgL_of (ok : ∀ p ∈ ps, PairOk n p) {v : Nat} (hv : v < n) {p : Nat × Nat} (r : Rch (nxL ps) (0, v) p) : ∃ es, Rch (nxLI ps) (0, own n) (p.1, es) ∧ es.getD p.2 0 = (v : Int) := by
  induction r with
  | refl =>
    refine ⟨own n, .refl, ?_⟩
    have z := own_getD (n := n) (x := (v : Int)) (by omega) (by omega)
    rw [Int.toNat_natCast] at z
    exact z
  | @step p q h m ih =>
    obtain ⟨es, r1, e1⟩ := ih
    have b := rchL_in ok hv h
    have le := (imgL_in ok r1).2.1
    rcases nxL_mem.mp m with ⟨j, hj, jk, e2, e⟩ | ⟨h1, ⟨z, e⟩ | ⟨z, e⟩⟩
    · rw [e]
      have okp := ok _ (List.getElem_mem hj)
      have t0 := okp.t0
      have t1 := okp.t1
      refine ⟨aft ps[j] es, .step r1 (nxLI_mem.mpr (.inl ⟨j, hj, jk, rfl⟩)), ?_⟩
      show (aft ps[j] es).getD ps[j].1.toNat 0 = (v : Int)
      rw [aft_getD okp le (by omega), if_pos (by omega), show ps[j].2.toNat = p.2 by omega]
      exact e1
    · rw [e]
      have okp := ok _ (List.getElem_mem h1)
      refine ⟨aft ps[p.1] es, .step r1 (nxLI_mem.mpr (.inr ⟨h1, rfl⟩)), ?_⟩
      show (aft ps[p.1] es).getD p.2 0 = (v : Int)
      rw [aft_getD okp le b.2, if_neg z]
      exact e1
    · rw [e]
      have okp := ok _ (List.getElem_mem h1)
      have t0 := okp.t0
      have t1 := okp.t1
      refine ⟨aft ps[p.1] es, .step r1 (nxLI_mem.mpr (.inr ⟨h1, rfl⟩)), ?_⟩
      show (aft ps[p.1] es).getD ps[p.1].1.toNat 0 = (v : Int)
      rw [aft_getD okp le (by omega), if_pos (by omega), show ps[p.1].2.toNat = p.2 by omega]
      exact e1
/-- only one image comes to the end -/
theorem oneL_img (ok : ∀ p ∈ ps, PairOk n p) : OneEnd n (nxL ps) ps.length ↔ ∀ es fs, Rch (nxLI ps) (0, own n) (ps.length, es) → Rch (nxLI ps) (0, own n) (ps.length, fs) → es = fs := by
  constructor
  · intro u es fs r1 r2
    obtain ⟨_, l1, h1⟩ := imgL_in ok r1
    obtain ⟨_, l2, h2⟩ := imgL_in ok r2
    have l1' : es.length = n := l1
    have l2' : fs.length = n := l2
    refine List.ext_getElem (l1'.trans l2'.symm) fun b hb hb2 => ?_
    have hb3 : b < n := by omega
    obtain ⟨v, hv, ev, rv⟩ := h1 b hb3
    obtain ⟨w, hw, ew, rw_⟩ := h2 b hb3
    have z := u b hb3 v w hv hw rv rw_
    have ev2 : es.getD b 0 = (v : Int) := ev
    have ew2 : fs.getD b 0 = (w : Int) := ew
    rw [getD_get hb] at ev2
    rw [getD_get hb2] at ew2
    rw [ev2, ew2, z]
  · intro u x hx v w hv hw r1 r2
    obtain ⟨es, q1, e1⟩ := imgL_of ok hv r1
    obtain ⟨fs, q2, e2⟩ := imgL_of ok hw r2
    have z := u es fs q1 q2
    have e1' : es.getD x 0 = (v : Int) := e1
    have e2' : fs.getD x 0 = (w : Int) := e2
    rw [z, e2'] at e1'
    omega
end
end Rv
namespace Rv
open PySem PySem.Spec PyProof.Rows L2
/-! how many come to a block -/
open Classical in
noncomputable def cnL (n : Nat) (ps : List (Int × Int)) (i b : Nat) : Nat := ((List.range i).filter fun v => decide (Rch (nxL ps) (0, v) (ps.length, b))).length
open Classical in
theorem cnL_yes {n i b : Nat} {ps : List (Int × Int)} (h : Rch (nxL ps) (0, i) (ps.length, b)) : cnL n ps (i + 1) b = cnL n ps i b + 1 := by
  unfold cnL
  rw [List.range_succ, List.filter_append, List.length_append, List.filter_cons_of_pos (p := fun v => decide (Rch (nxL ps) (0, v) (ps.length, b))) (decide_eq_true h)]
  rfl
open Classical in
theorem cnL_no {n i b : Nat} {ps : List (Int × Int)} (h : ¬ Rch (nxL ps) (0, i) (ps.length, b)) : cnL n ps (i + 1) b = cnL n ps i b := by
  unfold cnL
  rw [List.range_succ, List.filter_append, List.length_append, List.filter_cons_of_neg (p := fun v => decide (Rch (nxL ps) (0, v) (ps.length, b))) (by rw [decide_eq_true_eq]; exact h)]
  rfl
open Classical in
theorem cnL_le (n : Nat) (ps : List (Int × Int)) (i b : Nat) : cnL n ps i b ≤ i := by
  unfold cnL
  have := List.length_filter_le (fun v => decide (Rch (nxL ps) (0, v) (ps.length, b))) (List.range i)
  rw [List.length_range] at this
  exact this
open Classical in
theorem cnL_top {n : Nat} {ps : List (Int × Int)} (ok : ∀ p ∈ ps, PairOk n p) : (∀ b, b < n → cnL n ps n b = 1) ↔ OneEnd n (nxL ps) ps.length := by
  have key : ∀ b, b < n → (cnL n ps n b = 1 ↔ ∀ v w, v < n → w < n → Rch (nxL ps) (0, v) (ps.length, b) → Rch (nxL ps) (0, w) (ps.length, b) → v = w) := fun b hb => by
    obtain ⟨v, hv, r⟩ := oneL_reach ok hb
    unfold cnL
    have nd : ((List.range n).filter fun v => decide (Rch (nxL ps) (0, v) (ps.length, b))).Nodup := List.nodup_range.filter _
    have mem : ∀ x, x ∈ ((List.range n).filter fun v => decide (Rch (nxL ps) (0, v) (ps.length, b))) ↔ x < n ∧ Rch (nxL ps) (0, x) (ps.length, b) := fun x => by
      rw [List.mem_filter, List.mem_range, decide_eq_true_eq]
    rw [nodup_one nd ((mem v).mpr ⟨hv, r⟩)]
    exact ⟨fun h x y hx hy rx ry => h x ((mem x).mpr ⟨hx, rx⟩) y ((mem y).mpr ⟨hy, ry⟩), fun h x hx y hy => h x y ((mem x).mp hx).1 ((mem y).mp hy).1 ((mem x).mp hx).2 ((mem y).mp hy).2⟩
  exact ⟨fun h x hx => (key x hx).mp (h x hx), fun h x hx => (key x hx).mpr (h x hx)⟩
noncomputable def manL (n : Nat) (ps : List (Int × Int)) (i j : Nat) : List Int := (List.range n).map fun b => ((if b < j then cnL n ps (i + 1) b else cnL n ps i b : Nat) : Int)
theorem manL_len {n i j : Nat} {ps : List (Int × Int)} : (manL n ps i j).length = n := by
  unfold manL
  rw [List.length_map, List.length_range]
theorem manL_get {n i j b : Nat} {ps : List (Int × Int)} (hb : b < n) : (manL n ps i j)[b]? = some ((if b < j then cnL n ps (i + 1) b else cnL n ps i b : Nat) : Int) := by
  unfold manL
  rw [List.getElem?_map, List.getElem?_range hb]
  rfl
theorem manL_set {n i j : Nat} {ps : List (Int × Int)} (hj : j < n) : (manL n ps i j).set j ((cnL n ps (i + 1) j : Nat) : Int) = manL n ps i (j + 1) := by
  refine List.ext_getElem? fun b => ?_
  by_cases hb : b < n
  · rw [manL_get hb]
    by_cases z : j = b
    · subst z
      rw [List.getElem?_set_self (by rw [manL_len]; exact hj), if_pos (by omega)]
    · rw [List.getElem?_set_ne z, manL_get hb]
      by_cases y : b < j
      · rw [if_pos y, if_pos (by omega)]
      · rw [if_neg y, if_neg (by omega)]
  · rw [List.getElem?_eq_none (by rw [List.length_set, manL_len]; omega), List.getElem?_eq_none (by rw [manL_len]; omega)]
theorem manL_end (n : Nat) (ps : List (Int × Int)) (i : Nat) : manL n ps i n = manL n ps (i + 1) 0 := by
  refine List.ext_getElem? fun b => ?_
  by_cases hb : b < n
  · rw [manL_get hb, manL_get hb, if_pos hb, if_neg (by omega)]
  · rw [List.getElem?_eq_none (by rw [manL_len]; omega), List.getElem?_eq_none (by rw [manL_len]; omega)]
theorem manL_0 (n : Nat) (ps : List (Int × Int)) : manL n ps 0 0 = List.replicate n 0 := by
  refine List.ext_getElem? fun b => ?_
  by_cases hb : b < n
  · rw [manL_get hb, List.getElem?_replicate, if_pos hb, if_neg (by omega)]
    rfl
  · rw [List.getElem?_eq_none (by rw [manL_len]; omega), List.getElem?_eq_none (by rw [List.length_replicate]; omega)]
theorem manL_one {n : Nat} {ps : List (Int × Int)} (ok : ∀ p ∈ ps, PairOk n p) : manL n ps n 0 = List.replicate n 1 ↔ OneEnd n (nxL ps) ps.length := by
  rw [← cnL_top ok]
  constructor
  · intro h b hb
    have e := congrArg (fun l : List Int => l[b]?) h
    have e2 : (manL n ps n 0)[b]? = (List.replicate n (1 : Int))[b]? := e
    rw [manL_get hb, List.getElem?_replicate, if_pos hb, if_neg (by omega)] at e2
    have := Option.some.inj e2
    omega
  · intro h
    refine List.ext_getElem? fun b => ?_
    by_cases hb : b < n
    · rw [manL_get hb, List.getElem?_replicate, if_pos hb, if_neg (by omega), h b hb]
      rfl
    · rw [List.getElem?_eq_none (by rw [manL_len]; omega), List.getElem?_eq_none (by rw [List.length_replicate]; omega)]

def LDue (n : Nat) (ps : List (Int × Int)) (r : V) : Prop := (r = .non ∧ LateOk n ps) ∨ ∃ i : Nat, r = .int i ∧ LBad n ps i ∧ ∀ i', i' < i → ¬ LBad n ps i'
/-- the last writes of all blocks -/
def lwV (n : Nat) (ps : List (Int × Int)) (k : Nat) : List Int := (List.range n).map fun b : Nat => lw ps (b : Int) k
section
variable {n k b : Nat} {ps : List (Int × Int)}
theorem lwV_len : (lwV n ps k).length = n := by
  unfold lwV
  rw [List.length_map, List.length_range]
theorem lwV_get (hb : b < n) : (lwV n ps k)[b]? = some (lw ps (b : Int) k) := by
  unfold lwV
  rw [List.getElem?_map, List.getElem?_range hb]
  rfl
theorem lwV_at {x : Int} (h0 : 0 ≤ x) (h1 : x < n) : atI ((lwV n ps k).map V.int) x = some (.int (lw ps x k)) := by
  have e : atI ((lwV n ps k).map V.int) ((x.toNat : Nat) : Int) = some (.int (lw ps ((x.toNat : Nat) : Int) k)) := atI_nat (by rw [List.getElem?_map, lwV_get (by omega)]; rfl)
  rw [show ((x.toNat : Nat) : Int) = x by omega] at e
  exact e
theorem lwV_set {i : Nat} (hi : i < ps.length) (t0 : 0 ≤ ps[i].1) (t1 : ps[i].1 < n) : (lwV n ps i).set ps[i].1.toNat (i : Int) = lwV n ps (i + 1) := by
  refine List.ext_getElem? fun b => ?_
  by_cases hb : b < n
  · rw [lwV_get hb, lw_next hi]
    by_cases z : ps[i].1 = (b : Int)
    · rw [if_pos z, show ps[i].1.toNat = b by omega, List.getElem?_set_self (by rw [lwV_len]; exact hb)]
    · rw [if_neg z, List.getElem?_set_ne (by omega), lwV_get hb]
  · rw [List.getElem?_eq_none (by rw [List.length_set, lwV_len]; omega), List.getElem?_eq_none (by rw [lwV_len]; omega)]
end
/-- what the repeated lines lead to from a place -/
def repL (ps : List (Int × Int)) (k b : Nat) : List (Nat × Nat) := (ps.filter fun q => decide (q.2 = (b : Int))).map fun q => (k, q.1.toNat)
theorem repL_add {ps : List (Int × Int)} {k b : Nat} {q : Int × Int} : repL (ps ++ [q]) k b = repL ps k b ++ (if q.2 = (b : Int) then [(k, q.1.toNat)] else []) := by
  unfold repL
  rw [List.filter_append, List.map_append]
  congr 1
  by_cases z : q.2 = (b : Int)
  · rw [if_pos z, List.filter_cons_of_pos (p := fun q : Int × Int => decide (q.2 = (b : Int))) (decide_eq_true z)]
    rfl
  · rw [if_neg z, List.filter_cons_of_neg (p := fun q : Int × Int => decide (q.2 = (b : Int))) (by rw [decide_eq_true_eq]; exact z)]
    rfl
theorem repL_len (ps : List (Int × Int)) (k b : Nat) : (repL ps k b).length ≤ ps.length := by
  unfold repL
  rw [List.length_map]
  exact List.length_filter_le _ _
end Rv
/-! dicts whose keys are pairs of a number and a row of numbers -/
namespace Rv
open PySem PySem.Spec PyProof.Rows L2
abbrev NK := Int × List Int
abbrev NE := NK × Addr × V
def nk (k : NK) : NestedKey := .tup [.num k.1, .tup (k.2.map .num)]
def KAt (H : Hp) (k : NK) (b : Addr) : Prop := ∃ q, H b = some (.tup [.int k.1, .ref q]) ∧ H q = some (.tup (k.2.map V.int))
def NRel (x : NE) (y : NestedKey × Addr × Value) : Prop := y.1 = nk x.1 ∧ y.2.1 = x.2.1 ∧ RelV x.2.2 y.2.2
def DNφ (P : Program) (w : World) (a : Addr) (xs : List NE) : Heap → Prop := fun h => (a == sysModules) = false ∧ xs.length ≤ sizeLine ∧ ∃ ys : List (NestedKey × Addr × Value), Paired NRel xs ys ∧
  ∃ o es ep, h.get? a = some o ∧ o.ExactDict ∧ o.data = .dict es ep ∧ es.toList = ys.map (entryOfKey (nestedKind P w)) ∧ (ys.map (·.1)).Nodup
def DNO (P : Program) (w : World) (a : Addr) (xs : List NE) : HO := .ext (DNφ P w a xs)
def keysN (xs : List NE) : List NK := xs.map (·.1)
def putN (xs : List NE) (k : NK) (b : Addr) (v : V) : List NE := if k ∈ keysN xs then xs.map (fun x => if x.1 = k then (x.1, x.2.1, v) else x) else xs ++ [(k, b, v)]
def KsAt (H : Hp) (xs : List NE) : Prop := ∀ x ∈ xs, KAt H x.1 x.2.1
theorem nums_inj : ∀ {a b : List Int}, a.map NestedKey.num = b.map NestedKey.num → a = b
  | [], [], _ => rfl
  | [], _ :: _, h => by simp at h
  | _ :: _, [], h => by simp at h
  | x :: r, y :: t, h => by
    rw [List.map_cons, List.map_cons] at h
    obtain ⟨h1, h2⟩ := List.cons.inj h
    rw [NestedKey.num.inj h1, nums_inj h2]
theorem nk_inj {a b : NK} (h : nk a = nk b) : a = b := by
  have h1 := NestedKey.tup.inj h
  obtain ⟨h2, h3⟩ := List.cons.inj h1
  obtain ⟨h4, _⟩ := List.cons.inj h3
  exact Prod.ext (NestedKey.num.inj h2) (nums_inj (NestedKey.tup.inj h4))
theorem depth_nums : ∀ es : List Int, NestedKey.depthAll (es.map NestedKey.num) = 0
  | [] => rfl
  | x :: r => by
    show max (NestedKey.depth (.num x)) (NestedKey.depthAll (r.map NestedKey.num)) = 0
    rw [depth_nums r]
    rfl
theorem depth_nk (k : NK) : (nk k).depth ≤ 8 := by
  show max (NestedKey.depth (.num k.1)) (max (NestedKey.depthAll (k.2.map NestedKey.num) + 1) 0) + 1 ≤ 8
  rw [depth_nums]
  show max 0 (max (0 + 1) 0) + 1 ≤ 8
  decide
theorem nums_all {h : Heap} : ∀ {es : List Int} {us : List Value}, Vals (es.map V.int) us → NestedAll h (es.map NestedKey.num) us
  | [], _, r => by cases r; exact .nil
  | x :: es, _, r => by
    cases r with
    | cons r1 r2 =>
      obtain ⟨t, rfl⟩ := r1
      exact .cons (.int _ _) (nums_all r2)
theorem nk_of {P : Program} {w : World} {H : Hp} {h : Heap} {k : NK} {b : Addr} (ok : HOk P w H h) (e : KAt H k b) : (nestedKind P w).is h (nk k) b := by
  obtain ⟨q, e1, e2⟩ := e
  obtain ⟨_, its, r, o, h1, h2, n, h3⟩ := (show ObjOk P w H h b (.tup [.int k.1, .ref q]) from ok b _ e1)
  obtain ⟨_, its2, r2, o2, g1, g2, n2, g3⟩ := (show ObjOk P w H h q (.tup (k.2.map V.int)) from ok q _ e2)
  refine ⟨.tup h1 h2 h3 ?_, depth_nk k⟩
  cases r with
  | cons r1 r3 =>
    cases r3 with
    | cons r4 r5 =>
      cases r5
      obtain ⟨t, rfl⟩ := r1
      cases r4
      exact .cons (.int _ _) (.cons (.tup g1 g2 g3 (by simpa using nums_all r2)) .nil)
theorem at_some {xs : List NE} {ys : List (NestedKey × Addr × Value)} (r : Paired NRel xs ys) (k : NK) : (atKey ys (nk k)).isSome = decide (k ∈ keysN xs) := by
  unfold atKey
  rw [Option.isSome_map]
  induction r with
  | nil => rfl
  | @cons x y xs ys h t ih =>
    obtain ⟨h1, h2, h3⟩ := h
    rw [List.find?_cons, h1]
    unfold keysN at *
    rw [List.map_cons]
    by_cases z : x.1 = k
    · rw [decide_eq_true (show nk x.1 = nk k from by rw [z])]
      rw [decide_eq_true (show k ∈ x.1 :: xs.map (·.1) from by rw [z]; exact List.mem_cons_self ..)]
      rfl
    · rw [decide_eq_false (show ¬ nk x.1 = nk k from fun e => z (nk_inj e))]
      show (List.find? _ ys).isSome = _
      rw [ih]
      refine decide_eq_decide.mpr ⟨fun m => List.mem_cons_of_mem _ m, fun m => ?_⟩
      rcases List.mem_cons.mp m with e | e
      · exact absurd e.symm z
      · exact e
theorem rel_put {xs : List NE} {ys : List (NestedKey × Addr × Value)} (r : Paired NRel xs ys) (k : NK) (b : Addr) {v : V} {u : Value} (ru : RelV v u) : Paired NRel (putN xs k b v) (storedH ys (nk k) b u) := by
  unfold putN storedH
  have e := at_some r k
  by_cases z : k ∈ keysN xs
  · rw [if_pos z, if_pos (by rw [e]; exact decide_eq_true z)]
    clear e z
    induction r with
    | nil => exact .nil
    | @cons x y xs ys h t ih =>
      obtain ⟨h1, h2, h3⟩ := h
      rw [List.map_cons, List.map_cons]
      refine .cons ?_ ih
      unfold putAt
      by_cases z : x.1 = k
      · rw [if_pos z, if_pos (by rw [h1, z])]
        exact ⟨h1, h2, ru⟩
      · rw [if_neg z, if_neg (by rw [h1]; exact fun e => z (nk_inj e))]
        exact ⟨h1, h2, h3⟩
  · rw [if_neg z, if_neg (by rw [e, decide_eq_false z]; exact Bool.false_ne_true)]
    exact r.snoc ⟨rfl, rfl, ru⟩
theorem putN_len (xs : List NE) (k : NK) (b : Addr) (v : V) : (putN xs k b v).length ≤ xs.length + 1 := by
  unfold putN
  split
  · rw [List.length_map]
    omega
  · rw [List.length_append]
    exact Nat.le_refl _
theorem dn_new {P : Program} {w : World} {H : Hp} {h : Heap} {a : Addr} {xs : List NE} (R : DNφ P w a xs h) : ObjOk P w H h a (DNO P w a xs) := by
  have ⟨hd, hl, ys, r, o, es, ep, ho, rest⟩ := R
  refine ⟨R, ⟨o, ho⟩, fun h1 h2 p k => ?_⟩
  obtain ⟨hd, hl, ys, r, o, es, ep, ho, rest⟩ := p
  exact ⟨hd, hl, ys, r, o, es, ep, k o ho, rest⟩
section
variable {X : Cx} {pins : List (Addr × Obj)} {σ : L2.St} {H : Hp} {s : Shared} {a b : Addr} {xs : List NE} {k : NK} {A : Around} {E : Value → Shared → Prop} {Pg : Program} {wd : World}
theorem dn_get (I : Inv X pins σ H s) (e : H a = some (DNO X.prog X.w a xs)) (ka : KsAt H xs) : (a == sysModules) = false ∧ xs.length ≤ sizeLine ∧ ∃ ys, Paired NRel xs ys ∧ s.heap.DictOfH (nestedKind X.prog X.w) a ys := by
  obtain ⟨hd, hl, ys, r, o, es, ep, ho, hx, hdat, hes, hn⟩ : DNφ X.prog X.w a xs s.heap := (I.hok a _ e).1
  refine ⟨hd, hl, ys, r, o, es, ep, ho, hx, hdat, hes, fun y hy => ?_, hn⟩
  clear hes hn e hl
  induction r with
  | nil => exact absurd hy List.not_mem_nil
  | @cons x z xs ys h t ih =>
    rcases List.mem_cons.mp hy with e | e
    · subst e
      obtain ⟨h1, h2, h3⟩ := h
      rw [h1, h2]
      exact nk_of I.hok (ka x (List.mem_cons_self ..))
    · exact ih (fun x hx => ka x (List.mem_cons_of_mem _ hx)) e
theorem dn_notIn {Q : Value → Shared → Prop} (hu : A.units + 64 < cLine) (I : Inv X pins σ H s) (e : H a = some (DNO X.prog X.w a xs)) (ka : KsAt H xs) (kb : KAt H k b) (h : ∀ s', Inv X pins σ H s' → Q (.bool (!decide (k ∈ keysN xs))) s') :
    wpAny (model X.prog X.w) A (compareOp .NotIn (.ref b) (.ref a)) Q E s := by
  obtain ⟨hd, hl, ys, r, dd⟩ := dn_get I e ka
  refine notIn_keyed (knd := nestedKind X.prog X.w) (k := nk k) (kvs := pairsH ys) (show A.units + 1 + 8 < cLine by omega) (nk_of I.hok kb) hd ⟨ys, dd, rfl⟩ ?_
  rw [valueAt_pairsH, Option.isSome_map, at_some r k]
  exact h _ (I.tok _)
theorem dn_setItem {Q : Unit → Shared → Prop} {v : V} {u : Value} (hu : A.units + 64 < cLine) (I : Inv X pins σ H s) (e : H a = some (DNO X.prog X.w a xs)) (ka : KsAt H xs) (kb : KAt H k b) (hl : xs.length < 100000) (rv : RelV v u)
    (h : ∀ s', Inv X pins σ (upd H a (DNO X.prog X.w a (putN xs k b v))) s' → Q () s') : wpAny (model X.prog X.w) A (setItem (.ref a) (.ref b) u) Q E s := by
  obtain ⟨hd, _, ys, r, dd⟩ := dn_get I e ka
  have hz : ys.length ≤ sizeLine := by rw [← Paired.length r, sizeLine_eq]; omega
  refine wpAny_setItem_heap (hsz := hz) (knd := nestedKind X.prog X.w) (show A.units + 1 + 8 < cLine by omega) (nk_of I.hok kb) dd fun h' dd' hs => h _ ?_
  obtain ⟨q, es, ep, hq, h2, h3, h4, _, h5⟩ := dd'
  refine d_write I (by rw [e]; exact True.intro) hs ⟨q, hq⟩ (dn_new ⟨hd, ?_, _, rel_put r k b rv, q, es, ep, hq, h2, h3, h4, h5⟩)
  have := putN_len xs k b v
  rw [sizeLine_eq]
  omega
/-! readings -/
def tDNewN (P : Program) (w : World) : TE := fun _ H Q => ∀ p, H p = none → Q (.ref p) (upd H p (DNO P w p []))
def NN (P : Program) (w : World) (x y : V) (H : Hp) (Q : VK) : Prop := ∃ a b xs k, x = .ref a ∧ y = .ref b ∧ H a = some (DNO P w a xs) ∧ KsAt H xs ∧ KAt H k b ∧ Q (.bl (!decide (k ∈ keysN xs))) H
def NP (P : Program) (w : World) (x y v : V) (H : Hp) (R : Hp → Prop) : Prop := ∃ a b xs k, x = .ref a ∧ y = .ref b ∧ H a = some (DNO P w a xs) ∧ KsAt H xs ∧ KAt H k b ∧ xs.length < 100000 ∧ R (upd H a (DNO P w a (putN xs k b v)))
def tNotInN (P : Program) (w : World) (ty td : TE) : TE := fun σ H Q => ty σ H fun y H1 => td σ H1 fun x H2 => NN P w x y H2 Q
def sDPutN (P : Program) (w : World) (td ty tv : TE) : TS := fun D σ H => tv σ H fun v H1 => td σ H1 fun x H2 => ty σ H2 fun y H3 => NP P w x y v H3 fun H4 => D.nx σ H4
end
section
variable {X : Cx} {o i e value : Expr} {pos pos' tpos : Pos} {td ty tv : TE} {P : Program} {w : World}
theorem pe_dnewN (hP : X.prog = P) (hw : X.w = w) : PE X (.Dict [] [] pos) (tDNewN P w) := by
  subst hP hw
  refine ⟨fun pins s σ H Q I h => wpAny_Dict_empty ⟨.ref s.heap.objs.size, _, I.laid (a := s.heap.objs.size) (o := DNO X.prog X.w s.heap.objs.size []) (t' := s.toks) (fun _ _ q => Heap.get?_push_of_some _ q) (Nat.le_refl _) (dn_new ?_), rfl, h _ (I.hok.fresh (Nat.le_refl _))⟩⟩
  exact ⟨beq_eq_false_iff_ne.mpr (Ne.symm (Nat.ne_of_lt I.big)), Nat.zero_le _, [], .nil, _, #[], 0, Heap.get?_push_size _ rfl, ⟨rfl, rfl, rfl⟩, rfl, rfl, List.nodup_nil⟩
theorem pc_notinN (hP : X.prog = P) (hw : X.w = w) (hu : X.A.units + 64 < cLine) (hi : PE X i ty) (ho : PE X o td) : PC X .NotIn i o (tNotInN P w ty td) := by
  subst hP hw
  refine ⟨fun pins s σ H Q I h => ?_⟩
  refine thn (hi.run pins s σ H _ I h) fun iv s1 ⟨y, H1, I1, ry, q1⟩ => thn (ho.run pins s1 σ H1 _ I1 q1) fun u s2 ⟨x, H2, I2, rx, a, b, xs, k, ex, ey, ea, ka, kb, q2⟩ => ?_
  subst ex ey
  obtain rfl : u = Value.ref a := rx
  obtain rfl : iv = Value.ref b := ry
  exact dn_notIn hu I2 ea ka kb fun s3 I3 => ⟨.bl _, H2, I3, rfl, q2⟩
theorem ps_dputN (hP : X.prog = P) (hw : X.w = w) (hu : X.A.units + 64 < cLine) (ho : PE X o td) (hi : PE X i ty) (hv : PE X value tv) (hs : swapsWith value (some (.Subscript o i pos')) pos.line X.env = pure false) :
    PS X (.Assign [.Subscript o i pos'] value pos) (sDPutN P w td ty tv) := by
  subst hP hw
  refine ⟨fun pins s σ H D I h => ?_⟩
  refine wpAny_Assign_Subscript (thn (hv.run pins s σ H _ I h) fun r s1 ⟨v, H1, I1, rv, q1⟩ => thn (ho.run pins s1 σ H1 _ I1 q1) fun u s2 ⟨x, H2, I2, rx, q2⟩ => thn (hi.run pins s2 σ H2 _ I2 q2) fun iv s3 ⟨y, H3, I3, ry, a, b, xs, k, ex, ey, ea, ka, kb, hl, q3⟩ => ?_) hs
  subst ex ey
  obtain rfl : u = Value.ref a := rx
  obtain rfl : iv = Value.ref b := ry
  exact dn_setItem hu I3 ea ka kb hl rv fun s4 I4 => ⟨σ, _, I4, q3⟩
end
section
variable {σ : L2.St} {H H' : Hp} {Q : VK} {D : Ends} {P : Program} {w : World} {td ty tv : TE} {d b l : Addr} {ks : List NK} {k : NK} {v : V} {R : Hp → Prop} {o : HO}
theorem rd_dnewN (q : ∀ H2 p, Same H H2 → H p = none → H2 p = some (DNO P w p []) → Q (.ref p) H2) : tDNewN P w σ H Q := fun p np => new_q (R := fun H => Q (.ref p) H) np fun H2 S h => q H2 p S np h
theorem rd_notInN (q : ty σ H fun y H1 => td σ H1 fun x H2 => NN P w x y H2 Q) : tNotInN P w ty td σ H Q := q
theorem rd_dputN (q : tv σ H fun v H1 => td σ H1 fun x H2 => ty σ H2 fun y H3 => NP P w x y v H3 fun H4 => D.nx σ H4) : sDPutN P w td ty tv D σ H := q
/-- a dict that holds these keys, each once -/
structure Mn (P : Program) (w : World) (H : Hp) (d : Addr) (ks : List NK) : Prop where
  ex : ∃ xs : List NE, H d = some (DNO P w d xs) ∧ keysN xs = ks ∧ KsAt H xs
  nd : ks.Nodup
theorem KAt.kt (h : KAt H k b) (t : Kt H H') : KAt H' k b := by
  obtain ⟨q, h1, h2⟩ := h
  exact ⟨q, t _ _ h1, t _ _ h2⟩
theorem Kt.mutE {φ : Heap → Prop} (h : H d = some (.ext φ)) : Kt H (upd H d o) := fun a ys e => by
  rw [upd_ne (ne_of e h (by intro z; cases z))]
  exact e
theorem Mn.nil (h : H d = some (DNO P w d [])) : Mn P w H d [] := ⟨⟨[], h, rfl, fun x hx => absurd hx List.not_mem_nil⟩, List.nodup_nil⟩
theorem Mn.same (m : Mn P w H d ks) (S : Same H H') : Mn P w H' d ks := ⟨by
  obtain ⟨xs, h, e, t⟩ := m.ex
  exact ⟨xs, S _ _ h, e, fun x hx => (t x hx).kt (Kt.same S)⟩, m.nd⟩
theorem Mn.mut (m : Mn P w H d ks) (ne : d ≠ l) (t2 : Kt H (upd H l o)) : Mn P w (upd H l o) d ks := ⟨by
  obtain ⟨xs, h, e, t⟩ := m.ex
  exact ⟨xs, by rw [upd_ne ne]; exact h, e, fun x hx => (t x hx).kt t2⟩, m.nd⟩
theorem rd_NN (m : Mn P w H d ks) (hb : KAt H k b) (q : ∀ c, (c = true ↔ k ∉ ks) → Q (.bl c) H) : NN P w (.ref d) (.ref b) H Q := by
  obtain ⟨xs, h, e, t⟩ := m.ex
  refine ⟨d, b, xs, k, rfl, rfl, h, t, hb, q _ ?_⟩
  rw [e, Bool.not_eq_true', decide_eq_false_iff_not]
theorem rd_NP (m : Mn P w H d ks) (hb : KAt H k b) (hl : ks.length < 100000) (q : ∀ H2 ks2, (∃ φ, H d = some (.ext φ)) → (∃ o, H2 = upd H d o) → Mn P w H2 d ks2 → (k ∈ ks → ks2 = ks) → (k ∉ ks → ks2 = ks ++ [k]) → R H2) : NP P w (.ref d) (.ref b) v H R := by
  obtain ⟨xs, h, e, t⟩ := m.ex
  have lx : xs.length = ks.length := by rw [← e]; exact (List.length_map ..).symm
  have kt : Kt H (upd H d (DNO P w d (putN xs k b v))) := Kt.mutE h
  refine ⟨d, b, xs, k, rfl, rfl, h, t, hb, by omega, ?_⟩
  by_cases z : k ∈ ks
  · refine q _ ks ⟨_, h⟩ ⟨_, rfl⟩ ⟨⟨_, upd_same, ?_, fun x hx => ?_⟩, m.nd⟩ (fun _ => rfl) (fun y => absurd z y)
    · unfold putN
      rw [if_pos (by rw [e]; exact z), ← e]
      unfold keysN
      rw [List.map_map]
      refine List.map_congr_left fun x _ => ?_
      show (if x.1 = k then (x.1, x.2.1, v) else x).1 = x.1
      split <;> rfl
    · unfold putN at hx
      rw [if_pos (by rw [e]; exact z)] at hx
      obtain ⟨x0, hx0, rfl⟩ := List.mem_map.mp hx
      have := (t x0 hx0).kt kt
      split <;> exact this
  · refine q _ (ks ++ [k]) ⟨_, h⟩ ⟨_, rfl⟩ ⟨⟨_, upd_same, ?_, fun x hx => ?_⟩, List.nodup_append.mpr ⟨m.nd, List.nodup_cons.mpr ⟨List.not_mem_nil, List.nodup_nil⟩, fun a ha c hc => by
      rw [List.mem_singleton.mp hc]
      exact fun y => z (y ▸ ha)⟩⟩ (fun y => absurd y z) (fun _ => rfl)
    · unfold putN
      rw [if_neg (by rw [e]; exact z)]
      unfold keysN at *
      rw [List.map_append, e]
      rfl
    · unfold putN at hx
      rw [if_neg (by rw [e]; exact z)] at hx
      rcases List.mem_append.mp hx with y | y
      · exact (t x y).kt kt
      · rw [List.mem_singleton.mp y]
        exact hb.kt kt
end
end Rv
/-! a dict comprehension stored on its line; searches over places with images -/
namespace Rv
open PySem PySem.Spec PyProof.Rows L2
section
variable {X : Cx}
theorem ps_setDc {i : Nat} {y : Str} {py : Pos} {kx vx tg iter : Expr} {ifs : List Expr} {scope : Scope} {own : List (Str × Nat)} {pos spos : Pos} {wi : TI} {g : TG} {tt : TT} {tk tv : TE} (hc : X.calm = true) (hN : X.N.Nodup) (hy : X.N[i]? = some y) (hyl : X.env.scope.names.lookup y = some .local)
    (hsw : swapsWith (.DictComp kx vx [⟨tg, iter, ifs, 0⟩] scope pos) (some (.Name y py)) spos.line X.env = pure true) (hi : PI X tg iter wi) (ok : BlkOk X.N X.env.scope scope own)
    (hg : ∀ (s : Shared) (H : Hp) (C : Addr) (cl : List (Str × Addr)) (fp : List Addr), PG (X.blk s H scope (compEnvC scope cl C X.env) fp) tg g) (ht : ∀ (s : Shared) (H : Hp) (C : Addr) (cl : List (Str × Addr)) (fp : List Addr), PTs (X.blk s H scope (compEnvC scope cl C X.env) fp) ifs tt)
    (hk : ∀ (s : Shared) (H : Hp) (C : Addr) (cl : List (Str × Addr)) (fp : List Addr), PE (X.blk s H scope (compEnvC scope cl C X.env) fp) kx tk)
    (he : ∀ (s : Shared) (H : Hp) (C : Addr) (cl : List (Str × Addr)) (fp : List Addr), PE (X.blk s H scope (compEnvC scope cl C X.env) fp) vx tv) (hs : ∀ x, foldedSetIterable iter X.env x = pure x := by intro _; rfl) :
    PS X (.Assign [.Name y py] (.DictComp kx vx [⟨tg, iter, ifs, 0⟩] scope pos) spos) (tAsg (tDc wi g tt tk tv (own.map (·.2))) (gName i)) := by
  refine ⟨fun pins s0 σ0 H0 D I0 want => ?_⟩
  have want2 : tDc wi g tt tk tv (own.map (·.2)) σ0 H0 (fun x G => gName i x σ0 G D.nx) := want
  rw [exec_Assign_Name_used _ _ _ _ hsw]
  refine wpAny_bind (wpAny_standAt (wpAny_bind (wpAny_bind ?_)))
  refine thn (dc_core (use := some (assign (.Name y py) X.env)) (Qf := fun _ t => SP X pins D .next t) hc hN I0 hi ok hg ht hk he hs want2 ?_) fun _ t fin => wpAny_pure (wpAny_pure fin)
  intro d C t m G I1 over named seat
  refine wpAny_assign_Name (store_ok2 (v := V.ref d) I1 hN hy (.inl hyl) rfl (fun t2 I2 moved => ?_) (.inr hyl))
  obtain ⟨a, but, whose⟩ := moved
  obtain ⟨a0, a1, a2, a3, a4, a5⟩ := seat
  have other : C ≠ a := whose.elim (fun z => by rw [z]; exact a1) fun z e => a4 y a z e.symm
  exact ⟨m, named.sameBut but other, fun _ but2 => ⟨_, G, I2.turned (t' := t2.toks) (fun b o hb e => (but2.2 b hb).trans e) a0 a1 a3 a4 a5, over⟩⟩
theorem sw_trueD {kx vx : Expr} {gs : List Comprehension} {scope : Scope} {pos py : Pos} {y : Str} {l : Nat} {env : Env} (hk : env.scope.kind = .function) (hy : env.scope.names.lookup y = some .local) (hl : (py.line == pos.line) = true)
    (ha : (scope.names.any fun (n, k) => n == y && (k == .local || k == .cell)) = false) : swapsWith (.DictComp kx vx gs scope pos) (some (.Name y py)) l env = pure true := by
  have k0 : env.kindOf y = some .local := hy
  have b0 : env.blockKind = .function := by
    unfold Env.blockKind
    rw [hk]
    rfl
  unfold swapsWith
  simp only [Expr.pos, hl, ha, k0, b0]
  rfl
end
def Dc (J : It) (g : TG) (tt : TT) (tk tv : TE) (vs : List Nat) (H1 : Hp) (σ : L2.St) (Q : VK) : Prop := ∀ D, H1 D = none → ∃ W : Nat → Nat → Hp → Prop, (∃ m, W 0 m (upd H1 D (.dK []))) ∧ ∀ i m H, W i m H →
  (J.stop i H ∧ Q (.ref D) H) ∨ (J.go i H ∧ ∃ Nx : Hp → Prop, (∀ H', Nx H' → ∃ m', m' < m ∧ W (i + 1) m' H') ∧ ∀ x H', J.yld i H x H' → g x (wipe σ vs) H' fun σ2 H2 => wipe σ2 vs = wipe σ vs ∧ tt σ2 H2 fun b H3 =>
    if b = true then tk σ2 H3 fun y H4 => tv σ2 H4 fun z H5 => ∃ kvs k, y = kV k ∧ H5 D = some (.dK kvs) ∧ kvs.length < sizeLine ∧ Nx (upd H5 D (.dK (putK kvs k z))) else Nx H3)
theorem rd_dc {wi : TI} {g : TG} {tt : TT} {tk tv : TE} {vs : List Nat} {σ : L2.St} {H : Hp} {Q : VK} (q : wi σ H fun J H1 => Dc J g tt tk tv vs H1 σ Q) : tDc wi g tt tk tv vs σ H Q := q
/-- over any walk; Pv tells the dict's entries -/
theorem dc_it {J : It} {n : Nat} {G : Hp → Prop} {Y : Nat → Hp → V → Hp → Prop} (w : Walk J n G Y) {g : TG} {tt : TT} {tk tv : TE} {vs : List Nat} {σ : L2.St} {H0 : Hp} {Q : VK} (Pv : Nat → List (Key × V) → Prop) (p0 : Pv 0 []) (sm : ∀ i kvs, i ≤ n → Pv i kvs → kvs.length < 1000) (hG : ∀ H, Same H0 H → G H)
    (hs : ∀ i x H H' kvs (Qc : V → V → Hp → Prop) (R : Hp → Prop), i < n → Same H0 H → Pv i kvs → Y i H x H' → (∀ k z H5, Same H H5 → Pv (i + 1) (putK kvs k z) → Qc (kV k) z H5) → (∀ H3, Same H H3 → Pv (i + 1) kvs → R H3) →
      g x (wipe σ vs) H' fun σ2 H2 => wipe σ2 vs = wipe σ vs ∧ tt σ2 H2 fun b H3 => if b = true then tk σ2 H3 fun y H4 => tv σ2 H4 fun z H5 => Qc y z H5 else R H3)
    (kinj : True) (hd : ∀ H D kvs, Same H0 H → H0 D = none → H D = some (.dK kvs) → Pv n kvs → Q (.ref D) H) : Dc J g tt tk tv vs H0 σ Q := fun D nD => by
  refine ⟨fun i m H => m = n - i ∧ i ≤ n ∧ Same H0 H ∧ ∃ kvs, H D = some (.dK kvs) ∧ Pv i kvs, ⟨n, rfl, Nat.zero_le _, same_new (Same.refl _) nD, [], upd_same, p0⟩, ?_⟩
  rintro i m H ⟨rfl, hi, S, kvs, hD, p⟩
  have gG := hG H S
  by_cases hlt : i < n
  · refine .inr ⟨w.goes i H hlt gG, fun H' => i < n ∧ Same H0 H' ∧ ∃ kvs, H' D = some (.dK kvs) ∧ Pv (i + 1) kvs, fun H' p' => ⟨n - (i + 1), by omega, rfl, hlt, p'.2⟩, fun x H' y => ?_⟩
    refine hs i x H H' kvs (fun y z H5 => ∃ kvs k, y = kV k ∧ H5 D = some (.dK kvs) ∧ kvs.length < sizeLine ∧ _) _ hlt S p (w.yields i H x H' hlt gG y) (fun k z H5 S5 pz => ?_) (fun H3 S3 pz => ⟨hlt, S.trans S3, kvs, S3 _ _ hD, pz⟩)
    exact ⟨kvs, k, rfl, S5 _ _ hD, small1000 (by have := sm i kvs hi p; omega), hlt, same_mut (S.trans S5) nD, _, upd_same, pz⟩
  · have e : i = n := by omega
    subst e
    exact .inl ⟨w.stops H gG, hd H D kvs S nD hD p⟩
section
variable {H : Hp} {Q : VK} {p : Addr} {xs : List V} {y : V}
theorem rd_appB (h : H p = some (.lst xs)) (hz : xs.length < 100000) (q : Q .non (upd H p (.lst (xs ++ [y])))) : rAppend (.ref p) [y] H Q := ⟨p, xs, y, rfl, rfl, h, by rw [sizeLine_eq]; omega, q⟩
end
/-! places with images -/
def nkP (p : Nat × List Int) : NK := ((p.1 : Int), p.2)
theorem nkP_inj {a b : Nat × List Int} (h : nkP a = nkP b) : a = b := by
  have h1 := congrArg Prod.fst h
  have h2 := congrArg Prod.snd h
  have h3 : (a.1 : Int) = (b.1 : Int) := h1
  exact Prod.ext (by omega) h2
theorem mem_nkP {p : Nat × List Int} {l : List (Nat × List Int)} : nkP p ∈ l.map nkP ↔ p ∈ l := ⟨fun h => by
  obtain ⟨q, hq, e⟩ := List.mem_map.mp h
  rw [← nkP_inj e]
  exact hq, fun h => List.mem_map_of_mem h⟩
theorem places_len4 {n m : Nat} {l : List (Nat × List Int)} (n4 : n ≤ 4) (nd : l.Nodup) (h : ∀ p ∈ l, p.1 < m ∧ p.2.length = n ∧ ∀ e ∈ p.2, 0 ≤ e ∧ e < (n : Int)) : l.length ≤ m * 256 := by
  have en : ∀ p ∈ l, enc4 p.2 < 256 := fun p hp => by
    obtain ⟨h0, h1, h2⟩ := h p hp
    have k := enc4_lt (es := p.2) fun e hm => by have := h2 e hm; omega
    have q : 4 ^ p.2.length ≤ 4 ^ 4 := Nat.pow_le_pow_right (by decide) (by omega)
    have q2 : (4 : Nat) ^ 4 = 256 := by decide
    omega
  have z := nodup_len (m * 256) (l.map fun p => p.1 * 256 + enc4 p.2) (nodup_map nd fun a ha b hb e => by
    have ea := en a ha
    have eb := en b hb
    have e1 : a.1 = b.1 := by omega
    have e2 : enc4 a.2 = enc4 b.2 := by omega
    have h1 := h a ha
    have h2 := h b hb
    exact Prod.ext e1 (enc4_inj (by rw [h1.2.1, h2.2.1]) (fun x hx => by have := h1.2.2 x hx; omega) (fun x hx => by have := h2.2.2 x hx; omega) e2)) fun x hx => by
    obtain ⟨p, hp, rfl⟩ := List.mem_map.mp hx
    have e1 := en p hp
    have e2 := (h p hp).1
    have : (p.1 + 1) * 256 ≤ m * 256 := Nat.mul_le_mul_right _ e2
    omega
  rw [List.length_map] at z
  exact z
/-- what waits: each a tuple of a number and an image -/
def PlsAt (H : Hp) (as : List Addr) (ps : List (Nat × List Int)) : Prop := as.length = ps.length ∧ ∀ (i : Nat) p, ps[i]? = some p → ∃ a, as[i]? = some a ∧ KAt H (nkP p) a
section
variable {H H' : Hp} {as : List Addr} {ps : List (Nat × List Int)} {a : Addr} {p : Nat × List Int}
theorem PlsAt.nil : PlsAt H [] [] := ⟨rfl, fun i p e => by simp at e⟩
theorem PlsAt.kt (t : PlsAt H as ps) (k : Kt H H') : PlsAt H' as ps := ⟨t.1, fun i p e => by
  obtain ⟨a, e1, e2⟩ := t.2 i p e
  exact ⟨a, e1, e2.kt k⟩⟩
theorem PlsAt.app (t : PlsAt H as ps) (h : KAt H (nkP p) a) : PlsAt H (as ++ [a]) (ps ++ [p]) := ⟨by rw [List.length_append, List.length_append, t.1]; rfl, fun i q e => by
  by_cases z : i < ps.length
  · rw [List.getElem?_append_left z] at e
    obtain ⟨b, e1, e2⟩ := t.2 i q e
    exact ⟨b, by rw [List.getElem?_append_left (by rw [t.1]; exact z)]; exact e1, e2⟩
  · rw [List.getElem?_append_right (by omega)] at e
    have hi : i - ps.length = 0 := by
      have := (List.getElem?_eq_some_iff.mp e).1
      simp at this
      omega
    rw [hi] at e
    cases e
    exact ⟨a, by rw [List.getElem?_append_right (by rw [t.1]; omega), t.1, hi]; rfl, h⟩⟩
theorem PlsAt.last (t : PlsAt H (as ++ [a]) (ps ++ [p])) : PlsAt H as ps ∧ KAt H (nkP p) a := by
  have l : as.length = ps.length := by
    have := t.1
    rw [List.length_append, List.length_append] at this
    simpa using this
  refine ⟨⟨l, fun i q e => ?_⟩, ?_⟩
  · have z : i < ps.length := (List.getElem?_eq_some_iff.mp e).1
    obtain ⟨b, e1, e2⟩ := t.2 i q (by rw [List.getElem?_append_left z]; exact e)
    rw [List.getElem?_append_left (by omega)] at e1
    exact ⟨b, e1, e2⟩
  · obtain ⟨b, e1, e2⟩ := t.2 ps.length p (by rw [List.getElem?_append_right (Nat.le_refl _), Nat.sub_self]; rfl)
    rw [← l, List.getElem?_append_right (Nat.le_refl _), Nat.sub_self] at e1
    cases e1
    exact e2
end
/-- two lists of the same length, the one parted at its end -/
theorem snoc_both {α β : Type} {as : List α} {bs : List β} {b : β} (h : as.length = (bs ++ [b]).length) : ∃ as' a, as = as' ++ [a] ∧ as'.length = bs.length := by
  rw [List.length_append, List.length_singleton] at h
  rcases List.eq_nil_or_concat as with z | ⟨a, x, z⟩
  · rw [z] at h
    simp at h
  · refine ⟨a, x, by rw [z, List.concat_eq_append], ?_⟩
    rw [z, List.concat_eq_append, List.length_append, List.length_singleton] at h
    omega
end Rv
namespace Rv
open PySem PySem.Spec PyProof.Rows L2
def GD (a : Addr) (y z : V) (H : Hp) (Q : VK) : Prop := ∃ o, DGet H a y o ∧ Q (o.getD z) H
theorem rd_dget2v {σ : L2.St} {H : Hp} {Q : VK} {i : Nat} {a : Addr} {kvs : List (Key × V)} {ty tx : TE} (hv : σ[i]? = some (some (.ref a))) (h : H a = some (.dK kvs)) (q : ty σ H fun y H2 => tx σ H2 fun z H3 => GD a y z H3 Q) : tDGet2 (tVar i) ty tx σ H Q :=
  ⟨.ref a, hv, a, rfl, .inl ⟨kvs, .inl h⟩, q⟩
theorem rd_GD {H : Hp} {Q : VK} {a : Addr} {kvs : List (Key × V)} {k : Int} {z : V} (h : H a = some (.dK kvs)) (q : Q ((valV kvs (Sum.inl k)).getD z) H) : GD a (.int k) z H Q := ⟨_, DGet.k (k := Sum.inl k) h, q⟩
/-- the dict of the last writes -/
structure Lw (ps : List (Int × Int)) (i : Nat) (kvs : List (Key × V)) : Prop where
  len : kvs.length ≤ i
  val : ∀ b : Int, valV kvs (Sum.inl b) = if lw ps b i < 0 then none else some (.int (lw ps b i))
theorem Lw.nil {ps : List (Int × Int)} : Lw ps 0 [] := ⟨Nat.le_refl _, fun b => by
  show none = if (-1 : Int) < 0 then none else _
  rw [if_pos (by decide)]⟩
theorem Lw.put {ps : List (Int × Int)} {i : Nat} {kvs : List (Key × V)} (L : Lw ps i kvs) (h : i < ps.length) : Lw ps (i + 1) (putK kvs (Sum.inl ps[i].1) (.int i)) := ⟨by
    have := putK_len1 kvs (Sum.inl ps[i].1) (.int i)
    have := L.len
    omega, fun b => by
    rw [valV_put, lw_next h]
    by_cases z : ps[i].1 = b
    · rw [if_pos (by rw [z]), if_pos z, if_neg (by omega)]
    · rw [if_neg (fun e => z (Sum.inl.inj e).symm), if_neg z, L.val b]⟩
end Rv
/-! from an old mark -/
namespace Rv
open PySem PySem.Spec PyProof.Rows L2
/-- block b matters at position k -/
def Mt (n : Nat) (ps : List (Int × Int)) (k : Nat) (b : Int) : Prop := b ∈ fin (own n) (ps.drop k)
def MBad (n : Nat) (ps : List (Int × Int)) (k i : Nat) : Prop := k ≤ i ∧ ∃ h : i < ps.length, Mt n ps k ps[i].1
def MarkOk (n : Nat) (ps : List (Int × Int)) : Prop := ∀ k i, ¬ MBad n ps k i
def nxM (ps : List (Int × Int)) (p : Nat × Nat) : List (Nat × Nat) :=
  (if 0 < p.1 then [(p.1 - 1, p.2)] else []) ++ (match ps[p.1]? with
    | some q => (if (p.2 : Int) ≠ q.1 then [(p.1 + 1, p.2)] else []) ++ (if (p.2 : Int) = q.2 then [(p.1 + 1, q.1.toNat)] else [])
    | none => [])
section
variable {n : Nat} {ps : List (Int × Int)}
theorem mt_end {b : Nat} (hb : b < n) : Mt n ps ps.length (b : Int) := by
  unfold Mt
  rw [List.drop_of_length_le (Nat.le_refl _)]
  exact own_mem.mpr ⟨by omega, by omega⟩
theorem mt_step (ok : ∀ p ∈ ps, PairOk n p) {k : Nat} (hk : k < ps.length) (x : Int) : Mt n ps k x ↔ (x ≠ ps[k].1 ∧ Mt n ps (k + 1) x) ∨ (x = ps[k].2 ∧ Mt n ps (k + 1) ps[k].1) := by
  unfold Mt
  rw [drop_next hk]
  exact mem_led (ok _ (List.getElem_mem hk)) (fun q hq => ok q (List.mem_of_mem_drop hq)) x
theorem nxM_mem {p q : Nat × Nat} : q ∈ nxM ps p ↔ (0 < p.1 ∧ q = (p.1 - 1, p.2)) ∨ (∃ (h : p.1 < ps.length), ((p.2 : Int) ≠ ps[p.1].1 ∧ q = (p.1 + 1, p.2)) ∨ ((p.2 : Int) = ps[p.1].2 ∧ q = (p.1 + 1, ps[p.1].1.toNat))) := by
  unfold nxM
  rw [List.mem_append]
  have e1 : q ∈ (if 0 < p.1 then [(p.1 - 1, p.2)] else []) ↔ 0 < p.1 ∧ q = (p.1 - 1, p.2) := by
    split
    · rename_i h; simp [h]
    · rename_i h; simp [h]
  rw [e1]
  refine or_congr Iff.rfl ?_
  by_cases h : p.1 < ps.length
  · rw [List.getElem?_eq_getElem h]
    simp only [List.mem_append]
    constructor
    · rintro (k | k)
      · split at k
        · rename_i z
          exact ⟨h, .inl ⟨z, by simpa using k⟩⟩
        · simp at k
      · split at k
        · rename_i z
          exact ⟨h, .inr ⟨z, by simpa using k⟩⟩
        · simp at k
    · rintro ⟨_, ⟨z, k⟩ | ⟨z, k⟩⟩
      · exact .inl (by rw [if_pos z, k]; simp)
      · exact .inr (by rw [if_pos z, k]; simp)
  · rw [List.getElem?_eq_none (by omega)]
    exact ⟨fun k => absurd k List.not_mem_nil, fun ⟨k, _⟩ => absurd k h⟩
theorem rchM_in (ok : ∀ p ∈ ps, PairOk n p) {v : Nat} (hv : v < n) {p : Nat × Nat} (r : Rch (nxM ps) (0, v) p) : p.1 ≤ ps.length ∧ p.2 < n := by
  induction r with
  | refl => exact ⟨Nat.zero_le _, hv⟩
  | @step p q h m ih =>
    rcases nxM_mem.mp m with ⟨_, e⟩ | ⟨h1, ⟨_, e⟩ | ⟨_, e⟩⟩
    · rw [e]
      exact ⟨by show p.1 - 1 ≤ ps.length; omega, ih.2⟩
    · rw [e]
      exact ⟨h1, ih.2⟩
    · rw [e]
      have okp := ok _ (List.getElem_mem h1)
      have t0 := okp.t0
      have t1 := okp.t1
      refine ⟨h1, ?_⟩
      show ps[p.1].1.toNat < n
      omega
/-- what mattered keeps its number -/
theorem mark_place (ok : ∀ p ∈ ps, PairOk n p) (t : MarkOk n ps) {v : Nat} (hv : v < n) {p : Nat × Nat} (r : Rch (nxM ps) (0, v) p) : (∃ j, j ≤ p.1 ∧ Mt n ps j (p.2 : Int)) → src n ps p.1 p.2 = v := by
  induction r with
  | refl => exact fun _ => src0 hv
  | @step p q h m ih =>
    have b := rchM_in ok hv h
    rintro ⟨j, hj, mj⟩
    rcases nxM_mem.mp m with ⟨k0, e⟩ | ⟨h1, ⟨z, e⟩ | ⟨z, e⟩⟩
    · rw [e] at hj mj ⊢
      have hj2 : j ≤ p.1 - 1 := hj
      have mj2 : Mt n ps j (p.2 : Int) := mj
      have w := ih ⟨j, by omega, mj2⟩
      have hl : p.1 - 1 < ps.length := by omega
      have ne : ¬ (p.2 : Int) = ps[p.1 - 1].1 := fun y => t j (p.1 - 1) ⟨hj2, hl, by rw [← y]; exact mj2⟩
      have e1 := src_next ok hl b.2
      rw [show p.1 - 1 + 1 = p.1 by omega, if_neg ne] at e1
      show src n ps (p.1 - 1) p.2 = v
      rw [← e1]
      exact w
    · rw [e] at hj mj ⊢
      have mj2 : Mt n ps j (p.2 : Int) := mj
      have hj2 : j ≤ p.1 + 1 := hj
      have w := ih (by
        by_cases y : j = p.1 + 1
        · rw [y] at mj2
          exact ⟨p.1, Nat.le_refl _, (mt_step ok h1 _).mpr (.inl ⟨z, mj2⟩)⟩
        · exact ⟨j, by omega, mj2⟩)
      show src n ps (p.1 + 1) p.2 = v
      rw [src_next ok h1 b.2, if_neg z]
      exact w
    · rw [e] at hj mj ⊢
      have okp := ok _ (List.getElem_mem h1)
      have t0 := okp.t0
      have t1 := okp.t1
      have hj2 : j ≤ p.1 + 1 := hj
      have mj2 : Mt n ps j ((ps[p.1].1.toNat : Nat) : Int) := mj
      rw [show ((ps[p.1].1.toNat : Nat) : Int) = ps[p.1].1 by omega] at mj2
      have ej : j = p.1 + 1 := by
        by_cases y : j = p.1 + 1
        · exact y
        · exact absurd ⟨by omega, h1, mj2⟩ (t j p.1)
      rw [ej] at mj2
      have w := ih ⟨p.1, Nat.le_refl _, (mt_step ok h1 _).mpr (.inr ⟨z, mj2⟩)⟩
      show src n ps (p.1 + 1) ps[p.1].1.toNat = v
      rw [src_next ok h1 (by omega), if_pos (by omega), show ps[p.1].2.toNat = p.2 by omega]
      exact w
theorem mark_one (ok : ∀ p ∈ ps, PairOk n p) (t : MarkOk n ps) : OneEnd n (nxM ps) ps.length := fun x hx v w hv hw r1 r2 => by
  have e1 := mark_place ok t hv r1 ⟨ps.length, Nat.le_refl _, mt_end hx⟩
  have e2 := mark_place ok t hw r2 ⟨ps.length, Nat.le_refl _, mt_end hx⟩
  have e3 : src n ps ps.length x = v := e1
  have e4 : src n ps ps.length x = w := e2
  omega
theorem rchM_back {s : Nat × Nat} {b : Nat} : ∀ d k j, j + d = k → Rch (nxM ps) s (k, b) → Rch (nxM ps) s (j, b)
  | 0, k, j, e, r => by rw [show j = k by omega]; exact r
  | d + 1, k, j, e, r => by
    refine rchM_back d (k - 1) j (by omega) (.step r (nxM_mem.mpr (.inl ⟨by show 0 < k; omega, rfl⟩)))
theorem rchM_run (ok : ∀ p ∈ ps, PairOk n p) {v : Nat} (hv : v < n) : ∀ k, k ≤ ps.length → ∀ b, b < n → src n ps k b = v → Rch (nxM ps) (0, v) (k, b)
  | 0, _, b, hb, e => by
    rw [src0 hb] at e
    rw [show b = v by omega]
    exact .refl
  | k + 1, hk, b, hb, e => by
    have hk2 : k < ps.length := by omega
    have okp := ok _ (List.getElem_mem hk2)
    rw [src_next ok hk2 hb] at e
    by_cases z : (b : Int) = ps[k].1
    · rw [if_pos z] at e
      have s0 := okp.s0
      have s1 := okp.s1
      have ih := rchM_run ok hv k (by omega) ps[k].2.toNat (by omega) e
      refine .step ih (nxM_mem.mpr (.inr ⟨hk2, .inr ⟨by show ((ps[k].2.toNat : Nat) : Int) = ps[k].2; omega, ?_⟩⟩))
      show (k + 1, b) = (k + 1, ps[k].1.toNat)
      rw [show ps[k].1.toNat = b by omega]
    · rw [if_neg z] at e
      exact .step (rchM_run ok hv k (by omega) b hb e) (nxM_mem.mpr (.inr ⟨hk2, .inl ⟨z, rfl⟩⟩))
/-- on to the end, where the flow leads -/
theorem rchM_flow (ok : ∀ p ∈ ps, PairOk n p) {s : Nat × Nat} {x : Nat} (hx : x < n) : ∀ d k, k + d = ps.length → ∀ b : Nat, b < n → (fin (own n) (ps.drop k)).getD x 0 = (b : Int) → Rch (nxM ps) s (k, b) → Rch (nxM ps) s (ps.length, x)
  | 0, k, e, b, hb, f, r => by
    rw [List.drop_of_length_le (by omega)] at f
    have z := own_getD (n := n) (x := (x : Int)) (by omega) (by omega)
    rw [Int.toNat_natCast] at z
    have f2 : (own n).getD x 0 = (b : Int) := f
    rw [z] at f2
    rw [show ps.length = k by omega, show x = b by omega]
    exact r
  | d + 1, k, e, b, hb, f, r => by
    have hk : k < ps.length := by omega
    have okp := ok _ (List.getElem_mem hk)
    have t0 := okp.t0
    have t1 := okp.t1
    have la : (aft ps[k] (own n)).length = n := by rw [aft_len, own_len]
    have e1 : fin (own n) (ps.drop k) = (fin (own n) (ps.drop (k + 1))).map fun j => (aft ps[k] (own n)).getD j.toNat 0 := by
      rw [drop_next hk]
      show fin (aft ps[k] (own n)) (ps.drop (k + 1)) = _
      have z := fin_comp (es := aft ps[k] (own n)) _ (ps.drop (k + 1)) rfl (by rw [la]; exact fun q hq => ok q (List.mem_of_mem_drop hq))
      rw [la] at z
      exact z
    have lf : (fin (own n) (ps.drop (k + 1))).length = n := by rw [fin_len, own_len]
    have bj := fin_in (n := n) (qs := ps.drop (k + 1)) (fun q hq => ok q (List.mem_of_mem_drop hq)) _ (getD_mem (es := fin (own n) (ps.drop (k + 1))) (k := x) (by rw [lf]; exact hx))
    rw [e1, getD_map0 (by rw [lf]; exact hx)] at f
    generalize ej : (fin (own n) (ps.drop (k + 1))).getD x 0 = j at *
    have f2 : (aft ps[k] (own n)).getD j.toNat 0 = (b : Int) := f
    rw [aft_getD okp (own_len n) (by omega)] at f2
    have oj : (own n).getD j.toNat 0 = j := own_getD bj.1 bj.2
    by_cases z : ((j.toNat : Nat) : Int) = ps[k].1
    · rw [if_pos z, own_getD okp.s0 okp.s1] at f2
      refine rchM_flow ok hx d (k + 1) (by omega) ps[k].1.toNat (by omega) (by rw [ej]; omega) ?_
      exact .step r (nxM_mem.mpr (.inr ⟨hk, .inr ⟨f2.symm, rfl⟩⟩))
    · rw [if_neg z, oj] at f2
      refine rchM_flow ok hx d (k + 1) (by omega) b hb (by rw [ej]; exact f2) ?_
      exact .step r (nxM_mem.mpr (.inr ⟨hk, .inl ⟨by show (b : Int) ≠ ps[k].1; omega, rfl⟩⟩))
theorem one_mark (ok : ∀ p ∈ ps, PairOk n p) (ni : NoIdle n ps) (u : OneEnd n (nxM ps) ps.length) : MarkOk n ps := fun k i bad => by
  obtain ⟨ki, hi, m⟩ := bad
  have okp := ok _ (List.getElem_mem hi)
  have t0 := okp.t0
  have t1 := okp.t1
  have s0 := okp.s0
  have s1 := okp.s1
  obtain ⟨x, hx, ex⟩ := List.mem_iff_getElem.mp m
  have hx2 : x < n := by rw [fin_len, own_len] at hx; exact hx
  have nii := ni i hi
  generalize et : ps[i].1.toNat = tt at *
  have ht : tt < n := by omega
  have ct : ps[i].1 = (tt : Int) := by omega
  have fx : (fin (own n) (ps.drop k)).getD x 0 = (tt : Int) := by rw [getD_get hx, ex, ct]
  have go : ∀ c : Nat, c < n → ∀ m, k ≤ m → m ≤ ps.length → src n ps m tt = c → Rch (nxM ps) (0, c) (ps.length, x) := fun c hc m hm hm2 e =>
    rchM_flow ok hx2 (ps.length - k) k (by omega) tt ht fx (rchM_back (m - k) m k (by omega) (rchM_run ok hc m hm2 tt ht e))
  have num : ∀ m, ∃ c : Nat, c < n ∧ src n ps m tt = c := fun m => by
    have d := src_in ok (k := m) ht
    exact ⟨(src n ps m tt).toNat, by omega, by omega⟩
  obtain ⟨c1, h1, e1⟩ := num i
  obtain ⟨c2, h2, e2⟩ := num (i + 1)
  have z := u x hx2 c1 c2 h1 h2 (go c1 h1 i ki (by omega) e1) (go c2 h2 (i + 1) (by omega) (by omega) e2)
  have e3 := src_next ok hi ht
  rw [if_pos ct.symm, e2] at e3
  rw [e1, ← e3, z] at nii
  exact nii rfl
theorem oneM_reach (ok : ∀ p ∈ ps, PairOk n p) {x : Nat} (hx : x < n) : ∃ v, v < n ∧ Rch (nxM ps) (0, v) (ps.length, x) := by
  have d := src_in ok (k := ps.length) hx
  exact ⟨(src n ps ps.length x).toNat, by omega, rchM_run ok (by omega) _ (Nat.le_refl _) x hx (by omega)⟩
/-! the same by images -/
def nxMI (ps : List (Int × Int)) (p : Nat × List Int) : List (Nat × List Int) := ((List.range p.1).map fun j => (j, p.2)) ++ (match ps[p.1]? with | some q => [(p.1 + 1, aft q p.2)] | none => [])
theorem nxMI_mem {p q : Nat × List Int} : q ∈ nxMI ps p ↔ (∃ j, j < p.1 ∧ q = (j, p.2)) ∨ (∃ (h : p.1 < ps.length), q = (p.1 + 1, aft ps[p.1] p.2)) := by
  unfold nxMI
  rw [List.mem_append]
  refine or_congr ?_ ?_
  · rw [List.mem_map]
    exact ⟨fun ⟨j, hj, e⟩ => ⟨j, List.mem_range.mp hj, e.symm⟩, fun ⟨j, hj, e⟩ => ⟨j, List.mem_range.mpr hj, e.symm⟩⟩
  · by_cases h : p.1 < ps.length
    · rw [List.getElem?_eq_getElem h]
      exact ⟨fun k => ⟨h, List.mem_singleton.mp k⟩, fun ⟨_, k⟩ => List.mem_singleton.mpr k⟩
    · rw [List.getElem?_eq_none (by omega)]
      exact ⟨fun k => absurd k List.not_mem_nil, fun ⟨k, _⟩ => absurd k h⟩
theorem imgM_in (ok : ∀ p ∈ ps, PairOk n p) {p : Nat × List Int} (r : Rch (nxMI ps) (0, own n) p) : p.1 ≤ ps.length ∧ p.2.length = n ∧ ∀ b, b < n → ∃ v, v < n ∧ p.2.getD b 0 = (v : Int) ∧ Rch (nxM ps) (0, v) (p.1, b) := by
  induction r with
  | refl =>
    refine ⟨Nat.zero_le _, own_len n, fun b hb => ⟨b, hb, ?_, .refl⟩⟩
    have z := own_getD (n := n) (x := (b : Int)) (by omega) (by omega)
    rw [Int.toNat_natCast] at z
    exact z
  | @step p q h m ih =>
    obtain ⟨i1, i2, i3⟩ := ih
    rcases nxMI_mem.mp m with ⟨j, jk, e⟩ | ⟨h1, e⟩
    · rw [e]
      refine ⟨by show j ≤ ps.length; omega, i2, fun b hb => ?_⟩
      obtain ⟨v, hv, ev, rv⟩ := i3 b hb
      exact ⟨v, hv, ev, rchM_back (p.1 - j) p.1 j (by omega) rv⟩
    · rw [e]
      have okp := ok _ (List.getElem_mem h1)
      have t0 := okp.t0
      have s0 := okp.s0
      have s1 := okp.s1
      refine ⟨h1, by show (aft ps[p.1] p.2).length = n; rw [aft_len]; exact i2, fun b hb => ?_⟩
      show ∃ v, v < n ∧ (aft ps[p.1] p.2).getD b 0 = (v : Int) ∧ Rch (nxM ps) (0, v) (p.1 + 1, b)
      rw [aft_getD okp i2 hb]
      by_cases z : (b : Int) = ps[p.1].1
      · rw [if_pos z]
        obtain ⟨v, hv, ev, rv⟩ := i3 ps[p.1].2.toNat (by omega)
        refine ⟨v, hv, ev, .step rv (nxM_mem.mpr (.inr ⟨h1, .inr ⟨by show ((ps[p.1].2.toNat : Nat) : Int) = ps[p.1].2; omega, ?_⟩⟩))⟩
        show (p.1 + 1, b) = (p.1 + 1, ps[p.1].1.toNat)
        rw [show ps[p.1].1.toNat = b by omega]
      · rw [if_neg z]
        obtain ⟨v, hv, ev, rv⟩ := i3 b hb
        exact ⟨v, hv, ev, .step rv (nxM_mem.mpr (.inr ⟨h1, .inl ⟨z, rfl⟩⟩))⟩
theorem imgM_of (ok : ∀ p ∈ ps, PairOk n p) {v : Nat} (hv : v < n) {p : Nat × Nat} (r : Rch (nxM ps) (0, v) p) : ∃ es, Rch (nxMI ps) (0, own n) (p.1, es) ∧ es.getD p.2 0 = (v : Int) := by
  induction r with
  | refl =>
    refine ⟨own n, .refl, ?_⟩
    have z := own_getD (n := n) (x := (v : Int)) (by omega) (by omega)
    rw [Int.toNat_natCast] at z
    exact z
  | @step p q h m ih =>
    obtain ⟨es, r1, e1⟩ := ih
    have b := rchM_in ok hv h
    have le := (imgM_in ok r1).2.1
    rcases nxM_mem.mp m with ⟨k0, e⟩ | ⟨h1, ⟨z, e⟩ | ⟨z, e⟩⟩
    · rw [e]
      exact ⟨es, .step r1 (nxMI_mem.mpr (.inl ⟨p.1 - 1, by show p.1 - 1 < p.1; omega, rfl⟩)), e1⟩
    · rw [e]
      have okp := ok _ (List.getElem_mem h1)
      refine ⟨aft ps[p.1] es, .step r1 (nxMI_mem.mpr (.inr ⟨h1, rfl⟩)), ?_⟩
      show (aft ps[p.1] es).getD p.2 0 = (v : Int)
      rw [aft_getD okp le b.2, if_neg z]
      exact e1
    · rw [e]
      have okp := ok _ (List.getElem_mem h1)
      have t0 := okp.t0
      have t1 := okp.t1
      refine ⟨aft ps[p.1] es, .step r1 (nxMI_mem.mpr (.inr ⟨h1, rfl⟩)), ?_⟩
      show (aft ps[p.1] es).getD ps[p.1].1.toNat 0 = (v : Int)
      rw [aft_getD okp le (by omega), if_pos (by omega), show ps[p.1].2.toNat = p.2 by omega]
      exact e1
theorem oneM_img (ok : ∀ p ∈ ps, PairOk n p) : OneEnd n (nxM ps) ps.length ↔ ∀ es fs, Rch (nxMI ps) (0, own n) (ps.length, es) → Rch (nxMI ps) (0, own n) (ps.length, fs) → es = fs := by
  constructor
  · intro u es fs r1 r2
    obtain ⟨_, l1, h1⟩ := imgM_in ok r1
    obtain ⟨_, l2, h2⟩ := imgM_in ok r2
    have l1' : es.length = n := l1
    have l2' : fs.length = n := l2
    refine List.ext_getElem (l1'.trans l2'.symm) fun b hb hb2 => ?_
    have hb3 : b < n := by omega
    obtain ⟨v, hv, ev, rv⟩ := h1 b hb3
    obtain ⟨w, hw, ew, rw_⟩ := h2 b hb3
    have z := u b hb3 v w hv hw rv rw_
    have ev2 : es.getD b 0 = (v : Int) := ev
    have ew2 : fs.getD b 0 = (w : Int) := ew
    rw [getD_get hb] at ev2
    rw [getD_get hb2] at ew2
    rw [ev2, ew2, z]
  · intro u x hx v w hv hw r1 r2
    obtain ⟨es, q1, e1⟩ := imgM_of ok hv r1
    obtain ⟨fs, q2, e2⟩ := imgM_of ok hw r2
    have z := u es fs q1 q2
    have e1' : es.getD x 0 = (v : Int) := e1
    have e2' : fs.getD x 0 = (w : Int) := e2
    rw [z, e2'] at e1'
    omega
end
open Classical in
noncomputable def cnM (n : Nat) (ps : List (Int × Int)) (i b : Nat) : Nat := ((List.range i).filter fun v => decide (Rch (nxM ps) (0, v) (ps.length, b))).length
open Classical in
theorem cnM_yes {n i b : Nat} {ps : List (Int × Int)} (h : Rch (nxM ps) (0, i) (ps.length, b)) : cnM n ps (i + 1) b = cnM n ps i b + 1 := by
  unfold cnM
  rw [List.range_succ, List.filter_append, List.length_append, List.filter_cons_of_pos (p := fun v => decide (Rch (nxM ps) (0, v) (ps.length, b))) (decide_eq_true h)]
  rfl
open Classical in
theorem cnM_no {n i b : Nat} {ps : List (Int × Int)} (h : ¬ Rch (nxM ps) (0, i) (ps.length, b)) : cnM n ps (i + 1) b = cnM n ps i b := by
  unfold cnM
  rw [List.range_succ, List.filter_append, List.length_append, List.filter_cons_of_neg (p := fun v => decide (Rch (nxM ps) (0, v) (ps.length, b))) (by rw [decide_eq_true_eq]; exact h)]
  rfl
open Classical in
theorem cnM_le (n : Nat) (ps : List (Int × Int)) (i b : Nat) : cnM n ps i b ≤ i := by
  unfold cnM
  have := List.length_filter_le (fun v => decide (Rch (nxM ps) (0, v) (ps.length, b))) (List.range i)
  rw [List.length_range] at this
  exact this
open Classical in
theorem cnM_top {n : Nat} {ps : List (Int × Int)} (ok : ∀ p ∈ ps, PairOk n p) : (∀ b, b < n → cnM n ps n b = 1) ↔ OneEnd n (nxM ps) ps.length := by
  have key : ∀ b, b < n → (cnM n ps n b = 1 ↔ ∀ v w, v < n → w < n → Rch (nxM ps) (0, v) (ps.length, b) → Rch (nxM ps) (0, w) (ps.length, b) → v = w) := fun b hb => by
    obtain ⟨v, hv, r⟩ := oneM_reach ok hb
    unfold cnM
    have nd : ((List.range n).filter fun v => decide (Rch (nxM ps) (0, v) (ps.length, b))).Nodup := List.nodup_range.filter _
    have mem : ∀ x, x ∈ ((List.range n).filter fun v => decide (Rch (nxM ps) (0, v) (ps.length, b))) ↔ x < n ∧ Rch (nxM ps) (0, x) (ps.length, b) := fun x => by
      rw [List.mem_filter, List.mem_range, decide_eq_true_eq]
    rw [nodup_one nd ((mem v).mpr ⟨hv, r⟩)]
    exact ⟨fun h x y hx hy rx ry => h x ((mem x).mpr ⟨hx, rx⟩) y ((mem y).mpr ⟨hy, ry⟩), fun h x hx y hy => h x y ((mem x).mp hx).1 ((mem y).mp hy).1 ((mem x).mp hx).2 ((mem y).mp hy).2⟩
  exact ⟨fun h x hx => (key x hx).mp (h x hx), fun h x hx => (key x hx).mpr (h x hx)⟩
noncomputable def manM (n : Nat) (ps : List (Int × Int)) (i j : Nat) : List Int := (List.range n).map fun b => ((if b < j then cnM n ps (i + 1) b else cnM n ps i b : Nat) : Int)
theorem manM_len {n i j : Nat} {ps : List (Int × Int)} : (manM n ps i j).length = n := by
  unfold manM
  rw [List.length_map, List.length_range]
theorem manM_get {n i j b : Nat} {ps : List (Int × Int)} (hb : b < n) : (manM n ps i j)[b]? = some ((if b < j then cnM n ps (i + 1) b else cnM n ps i b : Nat) : Int) := by
  unfold manM
  rw [List.getElem?_map, List.getElem?_range hb]
  rfl
theorem manM_set {n i j : Nat} {ps : List (Int × Int)} (hj : j < n) : (manM n ps i j).set j ((cnM n ps (i + 1) j : Nat) : Int) = manM n ps i (j + 1) := by
  refine List.ext_getElem? fun b => ?_
  by_cases hb : b < n
  · rw [manM_get hb]
    by_cases z : j = b
    · subst z
      rw [List.getElem?_set_self (by rw [manM_len]; exact hj), if_pos (by omega)]
    · rw [List.getElem?_set_ne z, manM_get hb]
      by_cases y : b < j
      · rw [if_pos y, if_pos (by omega)]
      · rw [if_neg y, if_neg (by omega)]
  · rw [List.getElem?_eq_none (by rw [List.length_set, manM_len]; omega), List.getElem?_eq_none (by rw [manM_len]; omega)]
theorem manM_end (n : Nat) (ps : List (Int × Int)) (i : Nat) : manM n ps i n = manM n ps (i + 1) 0 := by
  refine List.ext_getElem? fun b => ?_
  by_cases hb : b < n
  · rw [manM_get hb, manM_get hb, if_pos hb, if_neg (by omega)]
  · rw [List.getElem?_eq_none (by rw [manM_len]; omega), List.getElem?_eq_none (by rw [manM_len]; omega)]
theorem manM_0 (n : Nat) (ps : List (Int × Int)) : manM n ps 0 0 = List.replicate n 0 := by
  refine List.ext_getElem? fun b => ?_
  by_cases hb : b < n
  · rw [manM_get hb, List.getElem?_replicate, if_pos hb, if_neg (by omega)]
    rfl
  · rw [List.getElem?_eq_none (by rw [manM_len]; omega), List.getElem?_eq_none (by rw [List.length_replicate]; omega)]
theorem manM_one {n : Nat} {ps : List (Int × Int)} (ok : ∀ p ∈ ps, PairOk n p) : manM n ps n 0 = List.replicate n 1 ↔ OneEnd n (nxM ps) ps.length := by
  rw [← cnM_top ok]
  constructor
  · intro h b hb
    have e := congrArg (fun l : List Int => l[b]?) h
    have e2 : (manM n ps n 0)[b]? = (List.replicate n (1 : Int))[b]? := e
    rw [manM_get hb, List.getElem?_replicate, if_pos hb, if_neg (by omega)] at e2
    have := Option.some.inj e2
    omega
  · intro h
    refine List.ext_getElem? fun b => ?_
    by_cases hb : b < n
    · rw [manM_get hb, List.getElem?_replicate, if_pos hb, if_neg (by omega), h b hb]
      rfl
    · rw [List.getElem?_eq_none (by rw [manM_len]; omega), List.getElem?_eq_none (by rw [List.length_replicate]; omega)]


def MDue (n : Nat) (ps : List (Int × Int)) (r : V) (H : Hp) : Prop := (r = .non ∧ MarkOk n ps) ∨ ∃ (D : Addr) (k i : Nat), r = .ref D ∧ H D = some (.tup [.int k, .int i]) ∧ MBad n ps k i ∧ (∀ i', i' < i → ∀ k', ¬ MBad n ps k' i') ∧ ∀ k', k' < k → ¬ MBad n ps k' i
theorem MDue.same {n : Nat} {ps : List (Int × Int)} {r : V} {H H' : Hp} (d : MDue n ps r H) (S : Same H H') : MDue n ps r H' := by
  rcases d with d | ⟨D, k, b, e, h, x⟩
  · exact .inl d
  · exact .inr ⟨D, k, b, e, S _ _ h, x⟩
/-- what mattered so far: each block with the least position -/
structure Mm (n : Nat) (ps : List (Int × Int)) (j : Nat) (kvs : List (Key × V)) : Prop where
  len : kvs.length ≤ j * 12
  some_ : ∀ (b : Int) v, valV kvs (Sum.inl b) = some v → ∃ k : Nat, v = .int k ∧ k < j ∧ Mt n ps k b ∧ ∀ k', k' < k → ¬ Mt n ps k' b
  none_ : ∀ b : Int, valV kvs (Sum.inl b) = none → ∀ k, k < j → ¬ Mt n ps k b
def DI (x y : V) (H : Hp) (Q : VK) : Prop := ∃ a o, x = .ref a ∧ DGet H a y o ∧ Q (.bl o.isSome) H
theorem rd_din {σ : L2.St} {H : Hp} {Q : VK} {ty td : TE} (q : ty σ H fun y H1 => td σ H1 fun x H2 => DI x y H2 Q) : tDIn ty td σ H Q := q
theorem rd_DI {H : Hp} {Q : VK} {a : Addr} {kvs : List (Key × V)} {k : Int} (h : H a = some (.dK kvs)) (q : Q (.bl (valV kvs (Sum.inl k)).isSome) H) : DI (.ref a) (.int k) H Q := ⟨a, _, rfl, DGet.k (k := Sum.inl k) h, q⟩
def SD (a : Addr) (y z : V) (H : Hp) (Q : VK) : Prop := ∃ (kvs : List (Key × V)) (k : Key), H a = some (.dK kvs) ∧ y = kV k ∧ kvs.length < sizeLine ∧ (∀ v, valV kvs k = some v → Q v H) ∧ (valV kvs k = none → Q z (upd H a (.dK (putK kvs k z))))
theorem rd_setdv {σ : L2.St} {H : Hp} {Q : VK} {i : Nat} {a : Addr} {kvs : List (Key × V)} {ty tx : TE} (hv : σ[i]? = some (some (.ref a))) (h : H a = some (.dK kvs)) (q : ty σ H fun y H2 => tx σ H2 fun z H3 => SD a y z H3 Q) : tDSetd (tVar i) ty tx σ H Q :=
  ⟨.ref a, hv, a, rfl, .inl ⟨kvs, .inl h⟩, q⟩
theorem rd_SD {H : Hp} {Q : VK} {a : Addr} {kvs : List (Key × V)} {k : Int} {z : V} (h : H a = some (.dK kvs)) (hl : kvs.length < 1000) (q1 : ∀ v, valV kvs (Sum.inl k) = some v → Q v H) (q2 : valV kvs (Sum.inl k) = none → Q z (upd H a (.dK (putK kvs (Sum.inl k) z)))) : SD a (.int k) z H Q := ⟨kvs, Sum.inl k, h, rfl, small1000 (by omega), q1, q2⟩
theorem Mm.nil {n : Nat} {ps : List (Int × Int)} : Mm n ps 0 [] := ⟨Nat.zero_le _, fun b v e => (by cases e), fun b _ k hk => absurd hk (Nat.not_lt_zero k)⟩
/-- the same while the blocks os that matter at i are gone through -/
structure Mi (n : Nat) (ps : List (Int × Int)) (i : Nat) (os : List Int) (j : Nat) (kvs : List (Key × V)) : Prop where
  len : kvs.length ≤ i * 12 + j
  some_ : ∀ (b : Int) v, valV kvs (Sum.inl b) = some v → (∃ k : Nat, v = .int k ∧ k < i ∧ Mt n ps k b ∧ ∀ k', k' < k → ¬ Mt n ps k' b) ∨ (v = .int i ∧ b ∈ os ∧ ∀ k, k < i → ¬ Mt n ps k b)
  none_ : ∀ b : Int, valV kvs (Sum.inl b) = none → (∀ k, k < i → ¬ Mt n ps k b) ∧ b ∉ os.take j
section
variable {n i j : Nat} {ps : List (Int × Int)} {os : List Int} {kvs : List (Key × V)}
theorem Mi.start (m : Mm n ps i kvs) : Mi n ps i os 0 kvs := ⟨by have := m.len; omega, fun b v e => .inl (m.some_ b v e), fun b e => ⟨m.none_ b e, by simp⟩⟩
theorem Mi.old {x : Int} {v : V} (m : Mi n ps i os j kvs) (hx : os[j]? = some x) (e : valV kvs (Sum.inl x) = some v) : Mi n ps i os (j + 1) kvs := ⟨by have := m.len; omega, m.some_, fun b eb => ⟨(m.none_ b eb).1, fun z => by
  rw [List.take_add_one, hx] at z
  rcases List.mem_append.mp z with y | y
  · exact (m.none_ b eb).2 y
  · have : b = x := by simpa using y
    rw [this, e] at eb
    cases eb⟩⟩
theorem Mi.new {x : Int} (m : Mi n ps i os j kvs) (hx : os[j]? = some x) (e : valV kvs (Sum.inl x) = none) : Mi n ps i os (j + 1) (putK kvs (Sum.inl x) (.int i)) := ⟨by
    have := m.len
    have := putK_len1 kvs (Sum.inl x) (.int i)
    omega, fun b v ev => by
    rw [valV_put] at ev
    by_cases z : (Sum.inl b : Key) = Sum.inl x
    · rw [if_pos z] at ev
      cases ev
      rw [Sum.inl.inj z]
      exact .inr ⟨rfl, List.mem_of_getElem? hx, (m.none_ x e).1⟩
    · rw [if_neg z] at ev
      exact m.some_ b v ev, fun b ev => by
    rw [valV_put] at ev
    by_cases z : (Sum.inl b : Key) = Sum.inl x
    · rw [if_pos z] at ev
      cases ev
    · rw [if_neg z] at ev
      refine ⟨(m.none_ b ev).1, fun y => ?_⟩
      rw [List.take_add_one, hx] at y
      rcases List.mem_append.mp y with w | w
      · exact (m.none_ b ev).2 w
      · have : b = x := by simpa using w
        exact z (by rw [this])⟩
theorem Mi.fin (m : Mi n ps i os os.length kvs) (l : os.length ≤ 12) (h : ∀ b, b ∈ os ↔ Mt n ps i b) : Mm n ps (i + 1) kvs := ⟨by have := m.len; omega, fun b v e => by
    rcases m.some_ b v e with ⟨k, e1, e2, e3, e4⟩ | ⟨e1, e2, e3⟩
    · exact ⟨k, e1, by omega, e3, e4⟩
    · exact ⟨i, e1, by omega, (h b).mp e2, e3⟩, fun b e k hk => by
    obtain ⟨h1, h2⟩ := m.none_ b e
    rw [List.take_of_length_le (Nat.le_refl _)] at h2
    by_cases z : k = i
    · rw [z]
      exact fun y => h2 ((h b).mpr y)
    · exact h1 k (by omega)⟩
end
/-- the tables of what matters, from position j on -/
structure Tb (H : Hp) (n : Nat) (ps : List (Int × Int)) (j : Nat) (ts : List Addr) : Prop where
  len : ts.length + j = ps.length + 1
  at_ : ∀ i, i + j ≤ ps.length → ∃ (a : Addr) (os : List Int), ts[i]? = some a ∧ H a = some (.lst (os.map V.int)) ∧ os.length + (j + i) ≤ 12 + ps.length ∧ ∀ x, x ∈ os ↔ Mt n ps (j + i) x
theorem Tb.same {H H' : Hp} {n j : Nat} {ps : List (Int × Int)} {ts : List Addr} (t : Tb H n ps j ts) (S : Same H H') : Tb H' n ps j ts := ⟨t.len, fun i hi => by
  obtain ⟨a, os, e1, e2, e3, e4⟩ := t.at_ i hi
  exact ⟨a, os, e1, S _ _ e2, e3, e4⟩⟩
theorem Tb.cons {H : Hp} {n j : Nat} {ps : List (Int × Int)} {ts : List Addr} {a : Addr} {os : List Int} (t : Tb H n ps (j + 1) ts) (h : H a = some (.lst (os.map V.int))) (l : os.length + j ≤ 12 + ps.length) (m : ∀ x, x ∈ os ↔ Mt n ps j x) : Tb H n ps j (a :: ts) := ⟨by have := t.len; rw [List.length_cons]; omega, fun i hi => by
  cases i with
  | zero => exact ⟨a, os, rfl, h, l, m⟩
  | succ i =>
    obtain ⟨b, os2, e1, e2, e3, e4⟩ := t.at_ i (by omega)
    refine ⟨b, os2, e1, e2, by omega, ?_⟩
    rw [show j + (i + 1) = j + 1 + i by omega]
    exact e4⟩
end Rv
/-! set comprehensions whose elements are whole numbers -/
namespace Rv
open PySem PySem.Spec PyProof.Rows L2 PpSet
section
variable {X : Cx}
/-- one turn's end: the element goes into the set at d -/
def Put1 (w : World) (d : Addr) (Nx : Hp → Prop) : VK := fun y G => ∃ (k : Int) (S : Int → Bool) (c : Nat), y = .int k ∧ G d = some (SetO w d S c) ∧ c + 1 < scanBound ∧
  Nx (upd G d (SetO w d (fun j => S j || decide (j = k)) (if S k = true then c else c + 1)))
def Si (w : World) (J : It) (g : TG) (tt : TT) (te : TE) (vs : List Nat) (σ : L2.St) (G0 : Hp) (Q : VK) : Prop :=
  ∀ d, G0 d = none → ∃ W : Nat → Nat → Hp → Prop, (∃ m, W 0 m (upd G0 d (SetO w d (fun _ => false) 0))) ∧ ∀ i m G, W i m G →
    (J.stop i G ∧ Q (.ref d) G) ∨ (J.go i G ∧ ∃ Nx : Hp → Prop, (∀ G', Nx G' → ∃ m', m' < m ∧ W (i + 1) m' G') ∧
      ∀ x G', J.yld i G x G' → g x (wipe σ vs) G' fun σ2 G2 => wipe σ2 vs = wipe σ vs ∧ tt σ2 G2 fun b G3 => if b = true then te σ2 G3 (Put1 w d Nx) else Nx G3)
def tSi (w : World) (wi : TI) (g : TG) (tt : TT) (te : TE) (vs : List Nat) : TE := fun σ H Q => wi σ H fun J G => Si w J g tt te vs σ G Q
abbrev bare (w : World) : Obj := { cls := .type "set", dict := none, data := .set #[] 0 (.fresh 0 0 (!w.params.followText "set-order")) }
theorem put_int {pins : List (Addr × Obj)} {σ : L2.St} {G : Hp} {s : Shared} {E : Value → Shared → Prop} {d : Addr} {Nx : Hp → Prop} {y : V} {u : Value} {Q : Value → Shared → Prop} (I : Inv X pins σ G s) (ry : RelV y u) (h : Put1 X.w d Nx y G)
    (q : ∀ s' G', Inv X pins σ G' s' → Nx G' → Q .none s') : wpAny (model X.prog X.w) X.A (call (.builtin "set.add") [.ref d, u]) Q E s := by
  obtain ⟨k, S, c, rfl, hd, room, nx⟩ := h
  obtain ⟨tk, rfl⟩ := ry
  refine setR_add (setO_get I hd) room fun h' sb new => q _ _ ?_ nx
  refine I.write (e := d) (t' := s.toks + 1) ?_ (.inl rfl) (fun b o hb ho => (sb.2 b hb).trans ho) ?_ (setO_new new)
  · rw [hd]
    trivial
  · obtain ⟨o, _, _, _, ho, _⟩ := new
    exact ⟨o, ho⟩
variable {elt tg iter : Expr} {ifs : List Expr} {scope : Scope} {own : List (PySem.Str × Nat)} {pos : Pos} {wi : TI} {g : TG} {tt : TT} {te : TE} {w : World}
theorem pe_si (hw : X.w = w) (calm : X.calm = true) (nd : X.N.Nodup) (hi : PI X tg iter wi) (ok : BlkOk X.N X.env.scope scope own)
    (hg : ∀ (s : Shared) (H : Hp) (C : Addr) (cl : List (PySem.Str × Addr)) (fp : List Addr), PG (X.blk s H scope (compEnvC scope cl C X.env) fp) tg g)
    (ht : ∀ (s : Shared) (H : Hp) (C : Addr) (cl : List (PySem.Str × Addr)) (fp : List Addr), PTs (X.blk s H scope (compEnvC scope cl C X.env) fp) ifs tt)
    (he : ∀ (s : Shared) (H : Hp) (C : Addr) (cl : List (PySem.Str × Addr)) (fp : List Addr), PE (X.blk s H scope (compEnvC scope cl C X.env) fp) elt te)
    (fold : ∀ x, foldedSetIterable iter X.env x = pure x := by intro _; rfl) :
    PE X (.SetComp elt [⟨tg, iter, ifs, 0⟩] scope pos) (tSi w wi g tt te (own.map (·.2))) := by
  subst hw
  refine ⟨fun pins s0 σ H Q I0 want => ?_⟩
  rw [eval_SetComp]
  have caught : ∀ y ∈ scope.names, y.2 = .free → ∃ c, X.env.cells.lookup y.1 = some c := fun y hy e => (ok.free y hy e).elim (fun z => I0.ok.has _ (.inl z)) fun z => I0.ok.has _ (.inr z)
  refine wpAny_comprehension_free rfl fold (closure_ok caught) ok.kind (fun y hy e => by rw [ok.uniq y hy, e]) (thn (hi.run pins s0 σ H _ I0 want) fun _ s1 found => thn found fun _ s2 got => ?_)
  obtain ⟨it, fp, tn, J, G0, rfl, I2, T, here, seat, want2⟩ := got
  refine newSet_ok (newEnv_comp ?_)
  obtain ⟨d, ed⟩ : ∃ d, d = s2.heap.objs.size := ⟨_, rfl⟩
  have free_d : G0 d = none := I2.hok.fresh (Nat.le_of_eq ed.symm)
  obtain ⟨W, ⟨m0, w0⟩, turn⟩ := want2 d free_d
  obtain ⟨G1, eG1⟩ : ∃ G1, G1 = upd G0 d (SetO X.w d (fun _ => false) 0) := ⟨_, rfl⟩
  rw [← eG1] at w0
  obtain ⟨s3, es3⟩ : ∃ s3 : Shared, s3 = { s2 with heap := s2.heap.push (bare X.w) } := ⟨_, rfl⟩
  have hp3 : s3.heap = s2.heap.push (bare X.w) := by rw [es3]
  have kept3 : ∀ b o, s2.heap.get? b = some o → s3.heap.get? b = some o := fun b o e => by rw [hp3]; exact Heap.get?_push_of_some _ e
  have I3 : Inv X pins σ G1 s3 := by
    rw [es3, eG1]
    refine I2.laid (t' := s2.toks) (fun b o e => Heap.get?_push_of_some _ e) (Nat.le_of_eq ed.symm) ?_
    rw [ed]
    exact setO_new (setR_fresh X.w)
  have low : ∀ b ∈ fp, b < s2.heap.objs.size := fun b hb => (T.obj _ _ here b hb).elim fun o k => Heap.lt_size k.1
  have seat3 : ∀ b ∈ fp, FpOk X pins G1 b ∧ b < s3.heap.objs.size := fun b hb => by
    refine ⟨⟨?_, (seat b hb).2⟩, ?_⟩
    · rw [eG1, upd_ne (by rw [ed]; exact Nat.ne_of_lt (low b hb))]
      exact (seat b hb).1
    · rw [hp3, Heap.size_push]
      exact Nat.lt_succ_of_lt (low b hb)
  have here3 : tn 0 s3.heap := T.keep _ _ _ here fun b _ o e => kept3 b o e
  have I4 := block_start I3 ok nd seat3
  obtain ⟨cs, ecs⟩ : ∃ cs, cs = cellsFrom (s3.heap.objs.size + 1) scope.names (cloFrom X.env.cells scope.names []) := ⟨_, rfl⟩
  have pg := hg s3 G1 s3.heap.objs.size cs fp
  have pt := ht s3 G1 s3.heap.objs.size cs fp
  have pe := he s3 G1 s3.heap.objs.size cs fp
  rw [← ecs] at I4
  obtain ⟨ce, ece⟩ : ∃ ce, ce = compEnvC scope cs s3.heap.objs.size X.env := ⟨_, rfl⟩
  have locs : ce.locals = s3.heap.objs.size := by rw [ece]; rfl
  rw [← ece] at I4 pg pt pe
  obtain ⟨s4, es4⟩ : ∃ s4 : Shared, s4 = { s3 with heap := pushCells (s3.heap.push { cls := .type "dict", data := .dict #[] }) scope.names } := ⟨_, rfl⟩
  rw [← es4] at I4
  have here4 : tn 0 s4.heap := T.keep _ _ _ here3 fun b _ o e => by rw [es4]; exact pushCells_keeps _ _ _ _ (Heap.get?_push_of_some _ e)
  have none3 : ∀ b ∈ fp, G1 b = none := fun b hb => (seat3 b hb).1.1
  generalize hR : (compPost (model X.prog X.w) X.A X.xe none (EP X pins σ Q) (.ref d) s3.heap.objs.size : Result → Shared → Prop) = R
  suffices loop : codeAny (model X.prog X.w) X.A (.compLoop (.SetComp elt [⟨tg, iter, ifs, 0⟩] scope pos) 0 (.ref it) (.ref d) ce) R s4 by
    have start := codeAny_compStart_set loop (T.self X.A 0 _ _ _ here4 loop)
    rw [← hR, es4, ece, ecs, es3, ed] at start
    exact start
  have pinned : ∀ {σ' : L2.St} {G' : Hp} {s' : Shared}, Inv (X.blk s3 G1 scope ce fp) [] σ' G' s' → (∀ b ∈ fp, G' b = none) → ∀ b ∈ fp, FpOk (X.blk s3 G1 scope ce fp) [] G' b := fun I' hn b hb =>
    ⟨hn b hb, (I'.ok.exf b hb).1, I'.ok.exfs b hb, .inl hb, fun x c e => (I'.ok.exf b hb).2 x c e, fun p hp => absurd (show p ∈ ([] : List (Addr × Obj)) ++ [] from hp) (by simp)⟩
  subst hR
  refine compLoopS_any (fun n t => ∃ i G, Inv (X.blk s3 G1 scope ce fp) [] (wipe σ (own.map (·.2))) G t ∧ tn i t.heap ∧ (∀ b ∈ fp, G b = none) ∧ W i n G) ?_ m0 ⟨0, G1, I4, here4, none3, w0⟩
  rintro n s5 ⟨i, G5, I5, here5, none5, w5⟩
  rcases turn i n G5 w5 with ⟨stop, over⟩ | ⟨go, Nx, next, step⟩
  · refine thnF (T.done (X.blk s3 G1 scope ce fp) rfl rfl rfl calm i [] s5 _ G5 (fun _ _ => False) I5 (pinned I5 none5) here5 stop) fun r s6 fin => ?_
    obtain ⟨rfl, I6⟩ := fin
    have J6 : Inv X pins σ G5 s6 := I3.call' (ch := fp) I6.os I6.base I6.hok I6.bare fun b hb => by
      obtain ⟨⟨_, a1, a2, a3, a4, a5⟩, _⟩ := seat3 b hb
      exact ⟨a3, a1, a4, a5⟩
    obtain ⟨mm, named, _⟩ := I6.loc
    have named : s6.heap.Ns ce.locals mm := named
    have gone : G5 ce.locals = none := I6.free
    rw [locs] at named gone
    obtain ⟨b0, b1, b2, b3, b4, b5⟩ := I3.fpOk (Nat.le_refl _) gone
    refine ⟨mm, named, fun hh sb => ?_⟩
    exact ⟨.ref d, G5, J6.turned (t' := s6.toks) (fun b o hb e => (sb.2 b hb).trans e) b0 b1 b3 b4 b5, rfl, over⟩
  · refine thnF (T.item (X.blk s3 G1 scope ce fp) rfl rfl rfl calm i [] s5 _ G5 (fun _ _ => False) I5 (pinned I5 none5) here5 go) fun r s6 item => ?_
    obtain ⟨u, rfl, item⟩ := item
    refine thnF item fun _ s7 ⟨x, G7, I7, rx, yx, here7, none7⟩ => ?_
    have P7 := I7.pinned (pinned I7 none7) (T.obj _ _ here7)
    refine thnF (pg.run _ s7 _ G7 x u _ P7 rx (step x G7 yx)) fun _ s8 ⟨σ8, G8, I8, same8, want8⟩ => ?_
    refine thnF (pt.run _ s8 σ8 G8 _ I8 want8) fun b s9 ⟨G9, I9, want9⟩ => ?_
    have close : ∀ (t : Shared) (G' : Hp), Inv (X.blk s3 G1 scope ce fp) ([] ++ pinsAt fp s7.heap) σ8 G' t → Nx G' → ∃ m, m < n ∧ ∃ i G, Inv (X.blk s3 G1 scope ce fp) [] (wipe σ (own.map (·.2))) G t ∧ tn i t.heap ∧ (∀ b ∈ fp, G b = none) ∧ W i m G := fun t G' I' nx => by
      obtain ⟨m', less, wn⟩ := next G' nx
      have still : ∀ b ∈ fp, ∀ o, s7.heap.get? b = some o → t.heap.get? b = some o ∧ G' b = none := fun b hb o e => by
        have k := I'.pin (b, o) (List.mem_append_right _ (List.mem_append_right _ (mem_pinsAt hb e)))
        exact ⟨k.1, k.2.1⟩
      have len : (wipe σ (own.map (·.2))).length = σ8.length := (congrArg List.length same8).symm.trans (wipe_length ..)
      refine ⟨m', less, i + 1, G', (I'.unpinned (pins := [])).weak len fun j v e => ?_, T.keep _ _ _ here7 fun b hb o e => (still b hb o e).1, fun b hb => ?_, wn⟩
      · rw [← same8] at e
        exact (wipe_some e).1
      · exact (T.obj _ _ here7 b hb).elim fun o k => (still b hb o k.1).2
    cases b with
    | false => exact close s9 G9 I9 want9
    | true => exact thnF (pe.run _ s9 σ8 G9 _ I9 want9) fun u s10 ⟨y, G10, I10, ry, add⟩ => put_int (X := X.blk s3 G1 scope ce fp) I10 ry add fun s11 G11 I11 nx => close s11 G11 I11 nx
end
theorem rd_si {w : World} {wi : TI} {g : TG} {tt : TT} {te : TE} {vs : List Nat} {σ : L2.St} {H : Hp} {Q : VK} (q : wi σ H fun J G => Si w J g tt te vs σ G Q) : tSi w wi g tt te vs σ H Q := q
/-- Pv tells what was put in so far, in order, perhaps twice -/
theorem si_it {w : World} {J : It} {n : Nat} {G : Hp → Prop} {Y : Nat → Hp → V → Hp → Prop} (wk : Walk J n G Y) {g : TG} {tt : TT} {te : TE} {vs : List Nat} {σ : L2.St} {H0 : Hp} {Q : VK} (Pv : Nat → List Int → Prop) (p0 : Pv 0 []) (sm : ∀ i ks, i ≤ n → Pv i ks → ks.length < 1000) (hG : ∀ H, Same H0 H → G H)
    (hs : ∀ i x H H' ks (Qc : VK) (R : Hp → Prop), i < n → Same H0 H → Pv i ks → Y i H x H' → (∀ k H5, Same H H5 → Pv (i + 1) (ks ++ [k]) → Qc (.int k) H5) → (∀ H3, Same H H3 → Pv (i + 1) ks → R H3) →
      g x (wipe σ vs) H' fun σ2 H2 => wipe σ2 vs = wipe σ vs ∧ tt σ2 H2 fun b H3 => if b = true then te σ2 H3 Qc else R H3)
    (hd : ∀ H d ks c, Same H0 H → H0 d = none → c ≤ ks.length → H d = some (SetO w d (fun j => decide (j ∈ ks)) c) → Pv n ks → Q (.ref d) H) : Si w J g tt te vs σ H0 Q := fun d nd => by
  refine ⟨fun i m H => m = n - i ∧ i ≤ n ∧ Same H0 H ∧ ∃ ks c, c ≤ ks.length ∧ H d = some (SetO w d (fun j => decide (j ∈ ks)) c) ∧ Pv i ks, ⟨n, rfl, Nat.zero_le _, same_new (Same.refl _) nd, [], 0, Nat.le_refl _, ?_, p0⟩, ?_⟩
  · rw [upd_same]
    rfl
  rintro i m H ⟨rfl, hi, S, ks, c, hc, hD, p⟩
  have gG := hG H S
  by_cases hlt : i < n
  · refine .inr ⟨wk.goes i H hlt gG, fun H' => i < n ∧ Same H0 H' ∧ ∃ ks c, c ≤ ks.length ∧ H' d = some (SetO w d (fun j => decide (j ∈ ks)) c) ∧ Pv (i + 1) ks, fun H' p' => ⟨n - (i + 1), by omega, rfl, hlt, p'.2⟩, fun x H' y => ?_⟩
    refine hs i x H H' ks _ _ hlt S p (wk.yields i H x H' hlt gG y) (fun k H5 S5 pz => ?_) (fun H3 S3 pz => ⟨hlt, S.trans S3, ks, c, hc, S3 _ _ hD, pz⟩)
    have l := sm i ks hi p
    refine ⟨k, _, c, rfl, S5 _ _ hD, by unfold scanBound; omega, hlt, same_mut (S.trans S5) nd, ks ++ [k], (if decide (k ∈ ks) = true then c else c + 1), ?_, ?_, pz⟩
    · rw [List.length_append, List.length_singleton]
      split <;> omega
    · rw [upd_same]
      congr 2
      funext j
      rw [Bool.eq_iff_iff, Bool.or_eq_true, decide_eq_true_eq, decide_eq_true_eq, decide_eq_true_eq, List.mem_append, List.mem_singleton]
  · have e : i = n := by omega
    subst e
    exact .inl ⟨wk.stops H gG, hd H d ks c S nd hc hD p⟩
end Rv
/-! another box of draws; images that may be wrong; replacing -/
namespace Rv
open PySem PySem.Spec PyProof.Rows L2
def bgL (b c : Addr) (ns : List Int) (n : b ≠ c) : Box where
  b := b
  m := [b]
  fp := [b, c]
  I H := H c = some (.lst (ns.map V.int)) ∧ ∃ i bu se cn : Int, H b = some (.lst [.ref c, .int i, .int bu, .int se, .int cn]) ∧ 0 ≤ i
  sub a ha := by
    rw [List.mem_singleton.mp ha]
    exact List.mem_cons_self ..
  live H i a ha := by
    obtain ⟨h1, _, _, _, _, h2, _⟩ := i
    rcases List.mem_cons.mp ha with rfl | k
    · exact ⟨_, h2⟩
    · rw [List.mem_singleton.mp k]
      exact ⟨_, h1⟩
  frame H H' i k := by
    obtain ⟨h1, a1, a2, a3, a4, h2, h3⟩ := i
    exact ⟨by rw [k c (by simp)]; exact h1, a1, a2, a3, a4, by rw [k b (by simp)]; exact h2, h3⟩
def IsBag (B : Box) : Prop := ∃ b c ns n, B = bgL b c ns n
theorem bgL_put {b c : Addr} {ns : List Int} {n : b ≠ c} {H0 H : Hp} {i bu se cn : Int} (w : Wg (bgL b c ns n) H0 H) (h0 : 0 ≤ i) : Wg (bgL b c ns n) H0 (upd H b (.lst [.ref c, .int i, .int bu, .int se, .int cn])) :=
  ⟨fun a o ha e => by
    have nb : a ≠ b := fun z => ha (by rw [z]; exact List.mem_singleton.mpr rfl)
    rw [upd_ne nb]
    exact w.keep a o ha e, w.i0, by
    obtain ⟨h1, _⟩ := w.i1
    exact ⟨by rw [upd_ne n.symm]; exact h1, i, bu, se, cn, upd_same, h0⟩⟩
/-! tuples put together -/
section
variable {H : Hp} {K : PySem.W.Frag} {Q : VK} {a b : Addr} {xs ys : List V} {lo hi : Option Int}
theorem rd_catT (h : H a = some (.tup xs)) (h2 : H b = some (.tup ys)) (nx : xs ≠ []) (ny : ys ≠ []) (l : xs.length + ys.length ≤ 1000) (q : NewL (.tup (xs ++ ys)) Q H) : rCatT K (.ref a) (.ref b) H Q :=
  ⟨a, b, xs, ys, rfl, rfl, SqT.of h, SqT.of h2, nx, Nat.le_of_lt (small1000 (by omega)), fun e => absurd e ny, fun _ => q⟩
theorem rd_repT {k : Int} (h : H a = some (.tup xs)) (nx : xs ≠ []) (k2 : 2 ≤ k) (k3 : k ≤ 1000) (l : xs.length ≤ 1000) (q : NewL (.tup (List.replicate k.toNat xs).flatten) Q H) : rRepT K (.ref a) (.int k) H Q := ⟨a, k, xs, rfl, rfl, SqT.of h, nx, k2, k3, l, q⟩
theorem rd_slT (h : H a = some (.tup xs)) (no : ¬ (HT.sIx xs.length 0 lo = 0 ∧ HT.sIx xs.length xs.length hi = xs.length)) (q : NewL (.tup (cutV xs lo hi)) Q H) : rSlT K (.ref a) lo hi H Q := ⟨a, xs, rfl, SqT.of h, no, q⟩
theorem rd_sorted {ns : List Int} (h : H a = some (.lst (ns.map V.int))) (l : ns.length < 64) (q : ∀ (H2 : Hp) (p : Addr) (os : List Int), Same H H2 → H p = none → H2 p = some (.lst (os.map V.int)) → os.Perm ns → os.Pairwise (· ≤ ·) → Q (.ref p) H2) : rSorted K [.ref a] H Q :=
  ⟨a, ns, rfl, SqL.of h, l, fun os p pm pw np => q _ p os (fun c u e => by rw [upd_ne (ne_of_none e np)]; exact e) np upd_same pm pw⟩
theorem kit_st : kitB "str" "int" = some false := by decide +kernel
theorem kit_ni : kitB "NoneType" "int" = some false := by decide +kernel
end
/-! images that may be wrong -/
def s0 : Str := Str.ofString "0"
def EntV (x : V) : Prop := (∃ e : Int, x = .int e) ∨ x = .str s0 ∨ x = .non
def EntOk (x : V) : Prop := ∃ e : Int, x = .int e ∧ -1 ≤ e ∧ e ≤ 999
def ImgAt (H : Hp) (v : V) (es : List Int) : Prop := ∃ a, v = .ref a ∧ H a = some (.tup (es.map V.int))
def ImgBad (M : List Addr) (H : Hp) (v : V) (k : Int) : Prop :=
  (k = -1 ∧ (v = .non ∨ (∃ p xs, v = .ref p ∧ p ∉ M ∧ H p = some (.lst xs)) ∨ (∃ p xs, v = .ref p ∧ H p = some (.tup xs) ∧ (xs.length = 0 ∨ 12 < xs.length) ∧ xs.length ≤ 1000))) ∨
  (∃ (p : Addr) (xs : List V) (j : Nat), v = .ref p ∧ H p = some (.tup xs) ∧ 1 ≤ xs.length ∧ xs.length ≤ 12 ∧ (∀ x ∈ xs, EntV x) ∧ k = (j : Int) ∧ (∃ x, xs[j]? = some x ∧ ¬ EntOk x) ∧ ∀ (i : Nat) x, i < j → xs[i]? = some x → EntOk x)
theorem ImgAt.kt {H H' : Hp} {v : V} {es : List Int} (h : ImgAt H v es) (t : Kt H H') : ImgAt H' v es := by
  obtain ⟨a, e, h⟩ := h
  exact ⟨a, e, t _ _ h⟩
theorem ImgAt.same {H H' : Hp} {v : V} {es : List Int} (h : ImgAt H v es) (S : Same H H') : ImgAt H' v es := h.kt (Kt.same S)
theorem ImgBad.keep {M : List Addr} {H H' : Hp} {v : V} {k : Int} (h : ImgBad M H v k) (kp : ∀ a o, a ∉ M → H a = some o → H' a = some o) (t : Kt H H') : ImgBad M H' v k := by
  rcases h with ⟨e, h | ⟨p, xs, e2, n, h⟩ | ⟨p, xs, e2, h, l⟩⟩ | ⟨p, xs, j, e, h, r⟩
  · exact .inl ⟨e, .inl h⟩
  · exact .inl ⟨e, .inr (.inl ⟨p, xs, e2, n, kp _ _ n h⟩)⟩
  · exact .inl ⟨e, .inr (.inr ⟨p, xs, e2, t _ _ h, l⟩)⟩
  · exact .inr ⟨p, xs, j, e, t _ _ h, r⟩
theorem ImgBad.same {M : List Addr} {H H' : Hp} {v : V} {k : Int} (h : ImgBad M H v k) (S : Same H H') : ImgBad M H' v k := h.keep (fun a o _ e => S a o e) (Kt.same S)
theorem ImgBad.wg {B : Box} {H H' : Hp} {v : V} {k : Int} (h : ImgBad B.m H v k) (w : Wg B H H') : ImgBad B.m H' v k := h.keep w.keep (Kt.wg w)
/-- which error the images are due -/
def PairBad (M : List Addr) (H : Hp) (v1 v2 : V) (k : Int) : Prop := ImgBad M H v1 k ∨ (∃ es, ImgAt H v1 es ∧ Img es ∧ (ImgBad M H v2 k ∨ ∃ fs, ImgAt H v2 fs ∧ Img fs ∧ es.length ≠ fs.length ∧ k = -1))
theorem PairBad.same {M : List Addr} {H H' : Hp} {v1 v2 : V} {k : Int} (h : PairBad M H v1 v2 k) (S : Same H H') : PairBad M H' v1 v2 k := by
  rcases h with h | ⟨es, h1, I1, h | ⟨fs, h2, I2, n⟩⟩
  · exact .inl (h.same S)
  · exact .inr ⟨es, h1.same S, I1, .inl (h.same S)⟩
  · exact .inr ⟨es, h1.same S, I1, .inr ⟨fs, h2.same S, I2, n⟩⟩
def PairOkI (H : Hp) (v1 v2 : V) (es fs : List Int) : Prop := ImgAt H v1 es ∧ ImgAt H v2 fs ∧ Img es ∧ Img fs ∧ es.length = fs.length
theorem PairOkI.same {H H' : Hp} {v1 v2 : V} {es fs : List Int} (h : PairOkI H v1 v2 es fs) (S : Same H H') : PairOkI H' v1 v2 es fs := ⟨h.1.same S, h.2.1.same S, h.2.2⟩
/-! anchors -/
def KeptB (es fs : List Int) (b : Nat) (x : Int) : Prop := es.getD b 0 = x ∧ fs.getD b 0 = x
instance (es fs : List Int) (b : Nat) (x : Int) : Decidable (KeptB es fs b x) := inferInstanceAs (Decidable (_ ∧ _))
/-- the least of the first blocks that is kept and holds x -/
def fk (es fs : List Int) (x : Int) : Nat → Int
  | 0 => -1
  | k + 1 => if 0 ≤ fk es fs x k then fk es fs x k else if KeptB es fs k x then (k : Int) else -1
def an (es fs : List Int) (x : Int) : Int := if x < 0 then -1 else fk es fs x fs.length
def anL (es fs : List Int) : List Int := fs.map (an es fs)
def looseL (es fs : List Int) : List Int := fs.filter fun x => decide (0 ≤ x ∧ an es fs x < 0)
section
variable {es fs : List Int} {x : Int}
theorem fk_bound : ∀ k, fk es fs x k = -1 ∨ (0 ≤ fk es fs x k ∧ fk es fs x k < k ∧ KeptB es fs (fk es fs x k).toNat x)
  | 0 => .inl rfl
  | k + 1 => by
    have ih := fk_bound k
    have e : fk es fs x (k + 1) = if 0 ≤ fk es fs x k then fk es fs x k else if KeptB es fs k x then (k : Int) else -1 := rfl
    rw [e]
    by_cases z : 0 ≤ fk es fs x k
    · rw [if_pos z]
      rcases ih with h | ⟨h1, h2, h3⟩
      · omega
      · exact .inr ⟨h1, by omega, h3⟩
    · rw [if_neg z]
      by_cases y : KeptB es fs k x
      · rw [if_pos y]
        exact .inr ⟨by omega, by omega, by rw [Int.toNat_natCast]; exact y⟩
      · rw [if_neg y]
        exact .inl rfl
theorem an_of : an es fs x = -1 ∨ (0 ≤ an es fs x ∧ an es fs x < fs.length ∧ 0 ≤ x ∧ KeptB es fs (an es fs x).toNat x) := by
  unfold an
  by_cases z : x < 0
  · rw [if_pos z]
    exact .inl rfl
  · rw [if_neg z]
    rcases fk_bound (es := es) (fs := fs) (x := x) fs.length with h | ⟨h1, h2, h3⟩
    · exact .inl h
    · exact .inr ⟨h1, h2, by omega, h3⟩
/-- the dict of the kept ones -/
structure Kp (es fs : List Int) (i : Nat) (kvs : List (Key × V)) : Prop where
  len : kvs.length ≤ i
  val : ∀ x : Int, valV kvs (Sum.inl x) = if x < 0 ∨ fk es fs x i < 0 then none else some (.int (fk es fs x i))
theorem Kp.nil : Kp es fs 0 [] := ⟨Nat.le_refl _, fun x => by
  rw [if_pos (.inr (by show (-1 : Int) < 0; decide))]
  rfl⟩
theorem fk_next (x : Int) (i : Nat) : fk es fs x (i + 1) = if 0 ≤ fk es fs x i then fk es fs x i else if KeptB es fs i x then (i : Int) else -1 := rfl
theorem fk_skip {i : Nat} (h : ¬ KeptB es fs i x) : fk es fs x (i + 1) = fk es fs x i := by
  rw [fk_next, if_neg h]
  rcases fk_bound (es := es) (fs := fs) (x := x) i with e | ⟨e, _⟩
  · rw [e]
    rfl
  · rw [if_pos e]
/-- nothing is put in: block i is empty or not kept -/
theorem Kp.skip {i : Nat} {kvs : List (Key × V)} (k : Kp es fs i kvs) (h : ∀ x, 0 ≤ x → ¬ KeptB es fs i x) : Kp es fs (i + 1) kvs := ⟨by have := k.len; omega, fun x => by
  rw [k.val x]
  by_cases z : x < 0
  · rw [if_pos (.inl z), if_pos (.inl z)]
  · rw [fk_skip (h x (by omega))]⟩
theorem Kp.put {i : Nat} {kvs : List (Key × V)} {y : Int} (k : Kp es fs i kvs) (h : KeptB es fs i y) (h0 : 0 ≤ y) (e : valV kvs (Sum.inl y) = none) : Kp es fs (i + 1) (putK kvs (Sum.inl y) (.int i)) := ⟨by
    have := putK_len1 kvs (Sum.inl y) (.int i)
    have := k.len
    omega, fun x => by
  have ey := k.val y
  rw [e] at ey
  have fy : fk es fs y i < 0 := by
    by_cases z : y < 0 ∨ fk es fs y i < 0
    · omega
    · rw [if_neg z] at ey
      cases ey
  rw [valV_put]
  by_cases z : x = y
  · subst z
    have e2 : fk es fs x (i + 1) = (i : Int) := by rw [fk_next, if_neg (by omega), if_pos h]
    rw [if_pos rfl, e2, if_neg (by omega)]
  · have ne : ¬ KeptB es fs i x := fun w => z (w.1.symm.trans h.1)
    rw [if_neg (fun w => z (Sum.inl.inj w)), k.val x, fk_skip ne]⟩
theorem Kp.old {i : Nat} {kvs : List (Key × V)} {y : Int} {v : V} (k : Kp es fs i kvs) (h : KeptB es fs i y) (e : valV kvs (Sum.inl y) = some v) : Kp es fs (i + 1) kvs := ⟨by have := k.len; omega, fun x => by
  by_cases z : x = y
  · subst z
    rw [k.val x] at e
    by_cases w : x < 0 ∨ fk es fs x i < 0
    · rw [if_pos w] at e
      cases e
    · have e2 : fk es fs x (i + 1) = fk es fs x i := by rw [fk_next, if_pos (by omega)]
      rw [e2, k.val x]
  · have ne : ¬ KeptB es fs i x := fun w => z (w.1.symm.trans h.1)
    rw [k.val x, fk_skip ne]⟩
theorem Kp.get {kvs : List (Key × V)} (k : Kp es fs fs.length kvs) (x : Int) : (valV kvs (Sum.inl x)).getD (.int (-1)) = .int (an es fs x) := by
  rw [k.val x]
  unfold an
  by_cases z : x < 0
  · rw [if_pos (.inl z), if_pos z]
    rfl
  · rw [if_neg z]
    rcases fk_bound (es := es) (fs := fs) (x := x) fs.length with e | ⟨e, _⟩
    · rw [e, if_pos (.inr (by decide))]
      rfl
    · rw [if_neg (by omega)]
      rfl
end
/-! the lines -/
def chg (es fs : List Int) (n : Nat) : List Nat := (List.range n).filter fun b => !decide (es.getD b 0 = fs.getD b 0)
def rowR (es fs : List Int) (b : Nat) : Int × Int := ((b : Int), an es fs (fs.getD b 0))
def wrV (p : Int × Int) : List V := if p.2 = -1 then [.str sClear, .int p.1, .int (-1), .str (txt [])] else [.str sCopy, .int p.1, .int p.2, .str (txt [])]
def rowsR (es fs : List Int) (n : Nat) : List (Int × Int) := (chg es fs n).map (rowR es fs)
/-- what a row does -/
def aftR (p : Int × Int) (hs : List Int) : List Int := if p.2 < 0 then hs.set p.1.toNat (-1) else if 0 ≤ hs.getD p.2.toNat 0 then hs.set p.1.toNat (hs.getD p.2.toNat 0) else hs
/-- the first m of the blocks that change have changed -/
structure Half (es fs hs : List Int) (m : Nat) : Prop where
  len : hs.length = fs.length
  at_ : ∀ b, b < fs.length → hs.getD b 0 = if b ∈ (chg es fs fs.length).take m then fs.getD b 0 else es.getD b 0
section
variable {es fs hs : List Int} {m : Nat}
theorem chg_mem {b n : Nat} : b ∈ chg es fs n ↔ b < n ∧ es.getD b 0 ≠ fs.getD b 0 := by
  unfold chg
  rw [List.mem_filter, List.mem_range]
  simp
theorem half_eq {gs : List Int} (h : Half es fs hs m) (g : Half es fs gs m) : hs = gs := by
  refine List.ext_getElem (h.len.trans g.len.symm) fun b h1 h2 => ?_
  rw [← getD_get h1, ← getD_get h2, h.at_ b (by have := h.len; omega), g.at_ b (by have := h.len; omega)]
/-- a row writes what is wanted -/
theorem row_does (I : Img es) (J : Img fs) (le : es.length = fs.length) (lo : looseL es fs = []) (h : Half es fs hs m) {b : Nat} (hb : b ∈ chg es fs fs.length) : aftR (rowR es fs b) hs = hs.set b (fs.getD b 0) := by
  have hb2 := chg_mem.mp hb
  have bl : b < fs.length := hb2.1
  have mb : fs.getD b 0 ∈ fs := getD_mem bl
  have rb := J.2.2 _ mb
  unfold rowR aftR
  show (if an es fs (fs.getD b 0) < 0 then hs.set ((b : Int)).toNat (-1) else _) = _
  rw [Int.toNat_natCast]
  rcases an_of (es := es) (fs := fs) (x := fs.getD b 0) with e | ⟨e1, e2, e3, e4⟩
  · rw [e, if_pos (by decide)]
    have : fs.getD b 0 = -1 := by
      by_cases z : 0 ≤ fs.getD b 0
      · have : fs.getD b 0 ∈ looseL es fs := by
          unfold looseL
          rw [List.mem_filter, decide_eq_true_eq]
          exact ⟨mb, z, by omega⟩
        rw [lo] at this
        exact absurd this List.not_mem_nil
      · omega
    rw [this]
  · rw [if_neg (by omega)]
    have na : (an es fs (fs.getD b 0)).toNat ∉ (chg es fs fs.length).take m := fun z => by
      have := (chg_mem.mp (List.mem_of_mem_take z)).2
      exact this (e4.1.trans e4.2.symm)
    have ha := h.at_ (an es fs (fs.getD b 0)).toNat (by omega)
    rw [if_neg na, e4.1] at ha
    show (if 0 ≤ hs.getD (an es fs (fs.getD b 0)).toNat 0 then hs.set b (hs.getD (an es fs (fs.getD b 0)).toNat 0) else hs) = _
    rw [ha, if_pos e3]
theorem half_next (h : Half es fs hs m) {b : Nat} (hb : (chg es fs fs.length)[m]? = some b) : Half es fs (hs.set b (fs.getD b 0)) (m + 1) := by
  have bl := (chg_mem.mp (List.mem_of_getElem? hb)).1
  refine ⟨by rw [List.length_set]; exact h.len, fun c hc => ?_⟩
  rw [List.take_add_one, hb]
  by_cases z : b = c
  · subst z
    rw [List.getD_eq_getElem?_getD, List.getElem?_set_self (by rw [h.len]; exact bl), if_pos (List.mem_append_right _ (by simp))]
    rfl
  · rw [List.getD_eq_getElem?_getD, List.getElem?_set_ne z, ← List.getD_eq_getElem?_getD, h.at_ c hc]
    have : c ∈ (chg es fs fs.length).take m ++ (some b).toList ↔ c ∈ (chg es fs fs.length).take m := by
      rw [List.mem_append]
      exact ⟨fun w => w.resolve_right fun y => z (by
      have w : c = b := by simpa using y
      exact w.symm), .inl⟩
    by_cases y : c ∈ (chg es fs fs.length).take m
    · rw [if_pos y, if_pos (this.mpr y)]
    · rw [if_neg y, if_neg (fun w => y (this.mp w))]
theorem half_again (h : Half es fs hs m) {b : Nat} (hb : b ∈ (chg es fs fs.length).take m) : hs.set b (fs.getD b 0) = hs := by
  have bl := (chg_mem.mp (List.mem_of_mem_take hb)).1
  have e := h.at_ b bl
  rw [if_pos hb] at e
  have hl : b < hs.length := by rw [h.len]; exact bl
  rw [← e, getD_get hl]
  exact List.set_getElem_self hl
theorem half_start (le : es.length = fs.length) : Half es fs es 0 := ⟨le, fun b hb => by rw [List.take_zero, if_neg List.not_mem_nil]⟩
theorem half_end (h : Half es fs hs (chg es fs fs.length).length) : hs = fs := by
  refine List.ext_getElem h.len fun b h1 h2 => ?_
  have e := h.at_ b h2
  rw [List.take_of_length_le (Nat.le_refl _)] at e
  rw [← getD_get h1, ← getD_get h2, e]
  by_cases z : b ∈ chg es fs fs.length
  · rw [if_pos z]
  · rw [if_neg z]
    exact Classical.byContradiction fun y => z (chg_mem.mpr ⟨h2, y⟩)
end
end Rv
namespace Rv
open PySem PySem.Spec PyProof.Rows L2
section
variable {σ : L2.St} {H : Hp} {K : PySem.W.Frag} {p : Addr} {xs : List V} {QB : Bool → Hp → Prop} {Q : VK}
theorem rd_truTv {i : Nat} (hv : σ[i]? = some (some (.ref p))) (h : H p = some (.tup xs)) (q : QB (!xs.isEmpty) H) : tTruQ K (tVar i) σ H QB := ⟨_, hv, _, .inr (.inl ⟨xs, SqT.of h, rfl⟩), q⟩
theorem rd_isiX {T : String} {x : V} {b : Bool} (hx : (∃ e : Int, x = .int e) ∨ x = .str s0 ∨ x = .non) (e1 : (∃ e : Int, x = .int e) → kitB "int" T = some b) (e2 : x = .str s0 → kitB "str" T = some b) (e3 : x = .non → kitB "NoneType" T = some b) (q : Q (.bl b) H) : rIsi K [x, .ty T] H Q := by
  rcases hx with ⟨e, rfl⟩ | rfl | rfl
  · exact rd_isiI (e1 ⟨e, rfl⟩) q
  · exact rd_isiS (e2 rfl) q
  · exact rd_isiN (e3 rfl) q
end
end Rv
namespace Rv
open PySem PySem.Spec PyProof.Rows L2
/-- // by a positive divisor of some length -/
def CDivV (_ j : Int) : Prop := 0 < j ∧ j ≤ 10 ^ 30
theorem op_fdivV {X : Cx} : OpR X (binaryOp .FloorDiv) (rI CDivV fun i j => .int (i.fdiv j)) := opI fun _ j _ _ _ _ _ hc q => by
  obtain ⟨h0, h1⟩ := hc
  refine floordiv_int (by omega) q (.inl (PyProof.noPylong_of_log2 ?_))
  have z : j.natAbs < 2 ^ 100 := by omega
  have y := (Nat.log2_lt (n := j.natAbs) (k := 100) (by omega)).mpr z
  omega
end Rv
/-! list(zip(a, b)) of two tuples: the pairs stand in the list, so each turn makes a new one -/
namespace Rv
open PySem PySem.Spec PyProof.Rows L2 RZ
section
variable {prog : Program} {w : World} {A : Around} {E : Value → Shared → Prop} {s : Shared}
abbrev ZAt (h : Heap) (z TI TO : Addr) (f0 : Value) (fl : Bool) : Prop :=
  h.get? z = some { cls := .type "zip", dict := none, data := .fields #[f0, .bool fl, .bool false, .ref TI, .ref TO], slots := #[] }
theorem zl_free {z TI TO T : Addr} {fl : Bool} {o : Obj} {Q : Bool → Shared → Prop} (hz : ZAt s.heap z TI TO (rawInt T) fl) (hT : s.heap.get? T = some o)
    (hQ : ∀ h', ZAt h' z TI TO (rawInt T) true → Heap.SameBut z s.heap h' → Q false { s with heap := h' }) :
    wpAny (model prog w) A (Builtin.SmallTypes.ownedTupleIsFree (.ref z)) Q E s := by
  unfold Builtin.SmallTypes.ownedTupleIsFree
  refine wpAny_bind (wpAny_field hz rfl (x := rawInt T) rfl ?_)
  show wpAny _ _ (loadIfAlive ((T : Int).toNat) >>= _) _ _ _
  rw [Int.toNat_natCast]
  refine wpAny_bind (PySem.W.kdx_alive hT ?_)
  simp only [Option.isNone_some, Bool.false_eq_true, if_false]
  refine wpAny_bind (wpAny_field hz rfl (x := .bool fl) rfl ?_)
  cases fl with
  | true =>
    rw [if_neg (show ¬ ((Value.bool true != Value.bool true) = true) from Bool.false_ne_true)]
    exact wpAny_pure (hQ _ hz (Heap.SameBut.refl _ _))
  | false =>
    rw [if_pos (show (Value.bool false != Value.bool true) = true from rfl)]
    exact wpAny_bind (wpAny_setField_rec hz (by simp) fun h3 hz3 hs3 => wpAny_pure (hQ h3 hz3 hs3))
theorem zl_item {z TI TO T i1 i2 l1 l2 : Addr} {k1 k2 : Nat} {xs ys : Array Value} {x y : Value} {fl : Bool} {o : Obj} {Q : Option Value → Shared → Prop} (D : ZipApart z TI TO i1 i2 l1 l2)
    (hz : ZAt s.heap z TI TO (rawInt T) fl) (hTo : s.heap.get? T = some o) (hTI : IsPair s.heap TI (.ref i1) (.ref i2))
    (h1 : s.heap.IsTupleIter i1 l1 k1) (h2 : s.heap.IsTupleIter i2 l2 k2) (hl1 : s.heap.IsTuple l1 xs) (hl2 : s.heap.IsTuple l2 ys) (hx : xs[k1]? = some x) (hy : ys[k2]? = some y)
    (hQ : ∀ h', ZAt h' z TI TO (rawInt T) true → h'.IsTupleIter i1 l1 (k1 + 1) → h'.IsTupleIter i2 l2 (k2 + 1) → IsPair h' s.heap.objs.size x y →
      (∀ c o, c ≠ z → c ≠ i1 → c ≠ i2 → s.heap.get? c = some o → h'.get? c = some o) → Q (some (.ref s.heap.objs.size)) { s with heap := h' }) :
    wpAny (model prog w) A (pyNext (.ref z)) Q E s := by
  have hT : s.TypeIs (.ref z) "zip" := ⟨_, hz, rfl⟩
  unfold pyNext
  refine wpAny_bind (wpAny_attempt (wpAny_callSpecial?_slot (name := Str.ofString "__next__") hT F.slot_zip_next (wpAny_call_entry F.slot_zip_next hT F.entry_zip_next ?_ (F.args_zip_next_1 _))))
  show wpAny _ _ (field (.ref z) 2 >>= _) _ _ _
  refine wpAny_bind (wpAny_field hz rfl (x := .bool false) rfl ?_)
  show wpAny _ _ (field (.ref z) 3 >>= _) _ _ _
  refine wpAny_bind (wpAny_field hz rfl (x := .ref TI) rfl ?_)
  refine wpAny_bind (wpAny_seqItems hTI rfl ?_)
  show wpAny _ _ (Builtin.SmallTypes.ownedTupleIsFree (.ref z) >>= _) _ _ _
  refine wpAny_bind (zl_free hz hTo fun g hzg sg => ?_)
  simp only [Bool.false_eq_true, if_false]
  refine wpAny_bind ?_
  first
  | rw [List.forIn_toArray]
  | (rw [← Array.forIn_toList]; simp only [List.toList_toArray])
  | rw [← Array.forIn_toList]
  simp only [List.forIn_cons, List.forIn_nil]
  refine wpAny_bind (wpAny_bind (wpAny_holding ?_))
  show wpAny _ _ (Builtin.SmallTypes.nextOf (.ref i1) >>= _) _ _ _
  have g1 := h1.extBut sg.extBut D.i1z
  have g2 := h2.extBut sg.extBut D.i2z
  have gl1 := hl1.extBut sg.extBut D.l1z
  have gl2 := hl2.extBut sg.extBut D.l2z
  refine wpAny_bind (nextOf_tuple_item g1 gl1 hx fun h₂ h1₂ hs₂ => wpAny_pure (wpAny_pure ?_))
  refine wpAny_bind (wpAny_bind (wpAny_holding ?_))
  show wpAny _ _ (Builtin.SmallTypes.nextOf (.ref i2) >>= _) _ _ _
  refine wpAny_bind (nextOf_tuple_item (g2.extBut hs₂.extBut D.i12.symm) (gl2.extBut hs₂.extBut D.l2i1) hy fun h₃ h2₃ hs₃ => wpAny_pure (wpAny_pure (wpAny_pure ?_)))
  show wpAny _ _ (newTuple [x, y] >>= _) _ _ _
  refine wpAny_bind (wpAny_newTuple ?_)
  have hsz : h₃.objs.size = s.heap.objs.size := by rw [hs₃.1, hs₂.1, sg.1]
  refine wpAny_pure ⟨_, rfl, wpAny_pure ?_⟩
  show Q (some (.ref h₃.objs.size)) { s with heap := h₃.push { cls := .type "tuple", data := .seq #[x, y] } }
  have hT3 : IsPair (h₃.push { cls := .type "tuple", data := .seq #[x, y] }) h₃.objs.size x y := Heap.get?_push_size _ rfl
  rw [hsz] at hT3 ⊢
  refine hQ _ (Heap.get?_push_of_some _ (hs₃.extBut _ _ D.i2z.symm (hs₂.extBut _ _ D.i1z.symm hzg))) ((h1₂.extBut hs₃.extBut D.i12).at fun o e => Heap.get?_push_of_some _ e) (h2₃.at fun o e => Heap.get?_push_of_some _ e) hT3
    fun c o c1 c2 c3 e => Heap.get?_push_of_some _ (hs₃.extBut _ _ c3 (hs₂.extBut _ _ c2 (sg.extBut _ _ c1 e)))
/-- the first tuple at its end, the second one may have more -/
theorem zl_end {z TI TO T i1 i2 l1 l2 : Addr} {k1 k2 : Nat} {xs ys : Array Value} {fl : Bool} {o : Obj} {Q : Option Value → Shared → Prop} (hh : A.handled = none) (D : ZipApart z TI TO i1 i2 l1 l2)
    (hz : ZAt s.heap z TI TO (rawInt T) fl) (hTo : s.heap.get? T = some o) (hTI : IsPair s.heap TI (.ref i1) (.ref i2))
    (h1 : s.heap.IsTupleIter i1 l1 k1) (h2 : s.heap.IsTupleIter i2 l2 k2) (hl1 : s.heap.IsTuple l1 xs) (hl2 : s.heap.IsTuple l2 ys) (hend : xs[k1]? = none ∨ ys[k2]? = none)
    (hQ : ∀ h', (∀ c o, c ≠ z → c ≠ i1 → c ≠ i2 → s.heap.get? c = some o → h'.get? c = some o) → Q none { s with heap := h' }) :
    wpAny (model prog w) A (pyNext (.ref z)) Q E s := by
  have hT : s.TypeIs (.ref z) "zip" := ⟨_, hz, rfl⟩
  unfold pyNext
  refine wpAny_bind (wpAny_attempt (wpAny_callSpecial?_slot (name := Str.ofString "__next__") hT F.slot_zip_next (wpAny_call_entry F.slot_zip_next hT F.entry_zip_next ?_ (F.args_zip_next_1 _))))
  have fin : ∀ h' e, (∀ c o, c ≠ z → c ≠ i1 → c ≠ i2 → s.heap.get? c = some o → h'.get? c = some o) → (∃ o, h'.get? e = some o ∧ o.cls = .type "StopIteration") →
      wpAny (model prog w) A (isInstance (.ref e) (.type "StopIteration") >>= fun b => if b = true then pure none else throw (.ref e)) Q E { s with heap := h' } := fun h' e hk ⟨o, ho, hc⟩ =>
    wpAny_bind (wpAny_isInstance (T := "StopIteration") (b := true) ⟨o, ho, hc⟩ isSubtype_stop (wpAny_pure (hQ _ hk)))
  show wpAny _ _ (field (.ref z) 2 >>= _) _ _ _
  refine wpAny_bind (wpAny_field hz rfl (x := .bool false) rfl ?_)
  show wpAny _ _ (field (.ref z) 3 >>= _) _ _ _
  refine wpAny_bind (wpAny_field hz rfl (x := .ref TI) rfl ?_)
  refine wpAny_bind (wpAny_seqItems hTI rfl ?_)
  show wpAny _ _ (Builtin.SmallTypes.ownedTupleIsFree (.ref z) >>= _) _ _ _
  refine wpAny_bind (zl_free hz hTo fun g hzg sg => ?_)
  simp only [Bool.false_eq_true, if_false]
  refine wpAny_bind ?_
  first
  | rw [List.forIn_toArray]
  | (rw [← Array.forIn_toList]; simp only [List.toList_toArray])
  | rw [← Array.forIn_toList]
  simp only [List.forIn_cons, List.forIn_nil]
  refine wpAny_bind (wpAny_bind (wpAny_holding ?_))
  show wpAny _ _ (Builtin.SmallTypes.nextOf (.ref i1) >>= _) _ _ _
  have g1 := h1.extBut sg.extBut D.i1z
  have g2 := h2.extBut sg.extBut D.i2z
  have gl1 := hl1.extBut sg.extBut D.l1z
  have gl2 := hl2.extBut sg.extBut D.l2z
  cases hx : xs[k1]? with
  | none =>
    exact wpAny_bind (nextOf_tuple_end hh g1 gl1 hx fun h₂ e hs₂ he => fin h₂ e (fun c o c1 c2 _ x => hs₂ _ _ c2 (sg.extBut _ _ c1 x)) he)
  | some x =>
    have hy : ys[k2]? = none := by
      rcases hend with h | h
      · rw [hx] at h; cases h
      · exact h
    refine wpAny_bind (nextOf_tuple_item g1 gl1 hx fun h₂ h1₂ hs₂ => wpAny_pure (wpAny_pure ?_))
    refine wpAny_bind (wpAny_bind (wpAny_holding ?_))
    show wpAny _ _ (Builtin.SmallTypes.nextOf (.ref i2) >>= _) _ _ _
    exact wpAny_bind (nextOf_tuple_end hh (g2.extBut hs₂.extBut D.i12.symm) (gl2.extBut hs₂.extBut D.l2i1) hy fun h₃ e hs₃ he => fin h₃ e (fun c o c1 c2 c3 x => hs₃ _ _ c3 (hs₂.extBut _ _ c2 (sg.extBut _ _ c1 x))) he)
end
section
variable {X : Cx} {pins : List (Addr × Obj)} {σ : L2.St} {A1 : Around} {a b q z TI TO i1 i2 : Addr} {xs ys : List V} {H0 : Hp} {Rs : Result → Shared → Prop}
/-- what the list at q holds: pairs, each new -/
def ZPairs (H0 : Hp) (xs ys : List V) (acc : List Addr) (H : Hp) : Prop :=
  ∀ (j : Nat) (t : Addr), acc[j]? = some t → ∃ x y : V, xs[j]? = some x ∧ ys[j]? = some y ∧ H t = some (.tup [x, y]) ∧ H0 t = none
def ZOwn (h : Heap) (H : Hp) (acc : List Addr) (z TI TO : Addr) : Prop :=
  (acc = [] ∧ IsZip h z TI TO .none) ∨ ∃ (T : Addr) (fl : Bool) (u : List V), ZAt h z TI TO (rawInt T) fl ∧ H T = some (.tup u)
def ZSt (h : Heap) (H : Hp) (acc : List Addr) (z TI TO i1 i2 a b : Addr) (i : Nat) : Prop :=
  ZOwn h H acc z TI TO ∧ IsPair h TI (.ref i1) (.ref i2) ∧ (∃ x y, IsPair h TO x y) ∧ h.IsTupleIter i1 a i ∧ h.IsTupleIter i2 b i
theorem zl_loop (hh : A1.in1.handled = none) (D : ZipApart z TI TO i1 i2 a b) (hm : xs.length < 1000) (ha0 : H0 a = some (.tup xs)) (hb0 : H0 b = some (.tup ys))
    (hdone : ∀ acc H s, Inv X pins σ H s → H q = some (.lst (acc.map V.ref)) → (∀ c u, H0 c = some u → H c = some u) → ZPairs H0 xs ys acc H → acc.length = min xs.length ys.length → Rs (.ok (.ret .none)) s) :
    ∀ (n i : Nat) (acc : List Addr) (H : Hp) (s : Shared), n + i = min xs.length ys.length → Inv X pins σ H s → (∀ c ∈ [z, TI, TO, i1, i2], FpOk X pins H c) → acc.length = i →
      H0 q = none → H q = some (.lst (acc.map V.ref)) → (∀ c u, H0 c = some u → H c = some u) → ZPairs H0 xs ys acc H → ZSt s.heap H acc z TI TO i1 i2 a b i →
      codeAny (model X.prog X.w) A1 (.builtin "list.extend.loop" ⟨[.ref q, .ref z, .none], []⟩) Rs s := by
  intro n
  induction n with
  | zero =>
    intro i acc H s hn I hf la hq0 hq h0 hp st
    have ha : SqT X.K H a xs := .inl (.inl (h0 _ _ ha0))
    have hb : SqT X.K H b ys := .inl (.inl (h0 _ _ hb0))
    refine codeAny_builtin PySem.F.entry_extend_loop ?_
    rw [Around.under_plainId PySem.F.plain_extend_loop _]
    show wpAny _ A1.in1 (pyNext (.ref z) >>= _) _ _ s
    obtain ⟨own, hTI, ⟨x0, y0, hTO⟩, h1, h2⟩ := st
    obtain ⟨its, rv, p1, _⟩ := I.tuple ha
    obtain ⟨its2, rv2, p2, _⟩ := I.tuple hb
    have l1 := rv.length
    have l2 := rv2.length
    have he : its.toArray[i]? = none ∨ its2.toArray[i]? = none := by
      by_cases k : xs.length ≤ ys.length
      · exact .inl (by simp; omega)
      · exact .inr (by simp; omega)
    have fin : ∀ h', (∀ c o, c ≠ z → c ≠ TO → c ≠ i1 → c ≠ i2 → s.heap.get? c = some o → h'.get? c = some o) → Rs (.ok (.ret .none)) { s with heap := h' } := fun h' hk =>
      hdone acc H _ (I.turnedL (t' := s.toks) (ch := [z, TI, TO, i1, i2]) (fun c o hb e => hk c o (fun e' => hb (by simp [e'])) (fun e' => hb (by simp [e'])) (fun e' => hb (by simp [e'])) (fun e' => hb (by simp [e'])) e) hf) hq h0 hp (by omega)
    rcases own with ⟨_, hz⟩ | ⟨T, fl, u, hz, hT⟩
    · exact wpAny_bind (pyNext_zipT_end hh D hz hTI hTO h1 h2 p1 p2 he fun h' hk => wpAny_pure (fin h' hk))
    · obtain ⟨o, ho⟩ : ∃ o, s.heap.get? T = some o := by
        obtain ⟨_, _, p3, _⟩ := I.tuple (show SqT X.K H T u from .inl (.inl hT))
        obtain ⟨o, ho, _⟩ := id p3
        exact ⟨o, ho⟩
      exact wpAny_bind (zl_end hh D hz ho hTI h1 h2 p1 p2 he fun h' hk => wpAny_pure (fin h' fun c o c1 _ c3 c4 e => hk c o c1 c3 c4 e))
  | succ n ih =>
    intro i acc H s hn I hf la hq0 hq h0 hp st
    have ha : SqT X.K H a xs := .inl (.inl (h0 _ _ ha0))
    have hb : SqT X.K H b ys := .inl (.inl (h0 _ _ hb0))
    refine codeAny_builtin PySem.F.entry_extend_loop ?_
    rw [Around.under_plainId PySem.F.plain_extend_loop _]
    show wpAny _ A1.in1 (pyNext (.ref z) >>= _) _ _ s
    obtain ⟨own, hTI, ⟨x0, y0, hTO⟩, h1, h2⟩ := st
    obtain ⟨its, rv, p1, _⟩ := I.tuple ha
    obtain ⟨its2, rv2, p2, _⟩ := I.tuple hb
    have l1 := rv.length
    have l2 := rv2.length
    obtain ⟨x, hx⟩ : ∃ x, xs[i]? = some x := ⟨_, List.getElem?_eq_getElem (by omega)⟩
    obtain ⟨y, hy⟩ : ∃ y, ys[i]? = some y := ⟨_, List.getElem?_eq_getElem (by omega)⟩
    obtain ⟨u, hu, ru⟩ := rv.get hx
    obtain ⟨u2, hu2, ru2⟩ := rv2.get hy
    have fn : H s.heap.objs.size = none := I.hok.fresh (Nat.le_refl _)
    have nq : q ≠ s.heap.objs.size := fun e => by rw [e, fn] at hq; cases hq
    have go : ∀ h' : Heap, (∃ (fl : Bool) (T : Addr) (w : List V), ZAt h' z TI TO (rawInt T) fl ∧ upd H s.heap.objs.size (.tup [x, y]) T = some (.tup w)) → (∃ x y, IsPair h' TO x y) → h'.IsTupleIter i1 a (i + 1) → h'.IsTupleIter i2 b (i + 1) → IsPair h' s.heap.objs.size u u2 →
        (∀ c o, c ≠ z → c ≠ TO → c ≠ i1 → c ≠ i2 → s.heap.get? c = some o → h'.get? c = some o) →
        wpAny (model X.prog X.w) A1.in1 (updateSeq q (·.push (.ref s.heap.objs.size)) >>= fun _ => again (.builtin "list.extend.loop" ⟨[.ref q, .ref z, .none], []⟩))
          (fun fin s' => match fin with | .done f => Rs (.ok f) s' | .again c' => c'.quiet = true ∧ codeAny (model X.prog X.w) A1 c' Rs s') (fun e s' => Rs (.error e) s') { s with heap := h' } := by
      intro h' hz' hTO' h1' h2' hT' hk
      have hTI' : IsPair h' TI (.ref i1) (.ref i2) := hk _ _ D.TIz D.TITO D.TIi1 D.TIi2 hTI
      have new : ObjOk X.prog X.w (upd H s.heap.objs.size (.tup [x, y])) h' s.heap.objs.size (.tup [x, y]) :=
        ⟨by show 2 ≤ sizeLine; rw [sizeLine_eq]; decide, [u, u2], .cons ru (.cons ru2 .nil), ⟨_, hT', rfl, _, rfl⟩⟩
      have I1 : Inv X pins σ (upd H s.heap.objs.size (.tup [x, y])) { s with heap := h' } :=
        I.turnedNew (t' := s.toks) (ch := [z, TI, TO, i1, i2]) (fun c o hb e => hk c o (fun e' => hb (by simp [e'])) (fun e' => hb (by simp [e'])) (fun e' => hb (by simp [e'])) (fun e' => hb (by simp [e'])) e) hf (Nat.le_refl _) new
      have hq1 : upd H s.heap.objs.size (.tup [x, y]) q = some (.lst (acc.map V.ref)) := by rw [upd_ne nq]; exact hq
      obtain ⟨_, its3, k, r3, hl3, e3⟩ := I1.lstM hq1
      rw [List.length_map] at hl3
      refine wpAny_bind (wpAny_updateSeq e3 rfl (wpAny_pure ⟨plainId_quiet PySem.F.plain_extend_loop _, ?_⟩) (by rw [List.size_toArray, sizeLine_eq]; omega) (by rw [Array.size_push, List.size_toArray, sizeLine_eq]; omega))
      have I2 := I1.lset (its' := its3 ++ [.ref s.heap.objs.size]) (ys := (acc ++ [s.heap.objs.size]).map V.ref) (f := (·.push (.ref s.heap.objs.size))) (t' := s.toks) hq1 e3 (by simp) (by rw [List.map_append]; exact r3.append (.cons rfl .nil)) (by rw [List.length_map, List.length_append, List.length_singleton, sizeLine_eq]; omega)
      have ex : ∀ c ∈ [z, TI, TO, i1, i2], c ≠ s.heap.objs.size ∧ c ≠ q := fun c hcm => by
        have hlt : c < s.heap.objs.size := by
          have e' : c = z ∨ c = TI ∨ c = TO ∨ c = i1 ∨ c = i2 := by simpa using hcm
          rcases e' with e | e | e | e | e
          · rw [e]
            rcases own with ⟨_, hz⟩ | ⟨T, fl, u, hz, hT⟩
            · exact Heap.lt_size hz
            · exact Heap.lt_size hz
          · rw [e]; exact Heap.lt_size hTI
          · rw [e]; exact Heap.lt_size hTO
          · rw [e]; obtain ⟨_, e1, _⟩ := h1; exact Heap.lt_size e1
          · rw [e]; obtain ⟨_, e2, _⟩ := h2; exact Heap.lt_size e2
        exact ⟨Nat.ne_of_lt hlt, fun e => by have := (hf c hcm).1; rw [e, hq] at this; cases this⟩
      have up : ∀ (c : Addr) (o : Obj), c ≠ q → h'.get? c = some o → (h'.update q (Obj.mapSeq (·.push (Value.ref s.heap.objs.size)))).get? c = some o := fun c o hc e => (Heap.get?_update_other _ _ (Ne.symm hc)).trans e
      refine ih (i + 1) (acc ++ [s.heap.objs.size]) _ _ (by omega) I2 (fun c hc => ⟨?_, (hf c hc).2⟩) (by rw [List.length_append, la, List.length_singleton]) hq0 upd_same (fun c v hv => ?_) (fun j t hj => ?_) ⟨.inr ?_, ?_, ?_, ?_, ?_⟩
      · rw [upd_ne (ex c hc).2, upd_ne (ex c hc).1]
        exact (hf c hc).1
      · have hcq : c ≠ q := fun e => by rw [e, hq0] at hv; cases hv
        have hcn : c ≠ s.heap.objs.size := fun e => by have w := h0 _ _ hv; rw [e, fn] at w; cases w
        rw [upd_ne hcq, upd_ne hcn]
        exact h0 _ _ hv
      · by_cases k : j < acc.length
        · rw [List.getElem?_append_left k] at hj
          obtain ⟨x1, y1, e1, e2, e3, e4⟩ := hp j t hj
          refine ⟨x1, y1, e1, e2, ?_, e4⟩
          rw [upd_ne (fun e => by rw [e, hq] at e3; cases e3), upd_ne (fun e => by rw [e, fn] at e3; cases e3)]
          exact e3
        · have hj2 := (List.getElem?_eq_some_iff.mp hj).1
          rw [List.length_append, List.length_singleton] at hj2
          have : j = i := by omega
          subst this
          rw [List.getElem?_append_right (by omega), la, Nat.sub_self] at hj
          cases hj
          refine ⟨x, y, hx, hy, ?_, ?_⟩
          · rw [upd_ne (Ne.symm nq), upd_same]
          · cases e : H0 s.heap.objs.size with
            | none => rfl
            | some v =>
              have w := h0 _ _ e
              rw [fn] at w
              cases w
      · obtain ⟨fl, T, w, e1, e2⟩ := hz'
        refine ⟨T, fl, w, up _ _ (ex z (by simp)).2 e1, ?_⟩
        rw [upd_ne (fun e => by rw [e, hq1] at e2; cases e2)]
        exact e2
      · exact up _ _ (ex TI (by simp)).2 hTI'
      · obtain ⟨x2, y2, e⟩ := hTO'
        exact ⟨x2, y2, up _ _ (ex TO (by simp)).2 e⟩
      · exact h1'.at fun o e => up _ o (ex i1 (by simp)).2 e
      · exact h2'.at fun o e => up _ o (ex i2 (by simp)).2 e
    rcases own with ⟨_, hz⟩ | ⟨T, fl, w, hz, hT⟩
    · exact wpAny_bind (pyNext_zipT_item D hz hTI hTO h1 h2 p1 p2 (x := u) (y := u2) (by simpa using hu) (by simpa using hu2) fun h' a1 a2 a3 a4 a5 _ a7 => go h' ⟨false, _, [x, y], a1, upd_same⟩ ⟨_, _, a2⟩ a3 a4 a5 a7)
    · obtain ⟨o, ho⟩ : ∃ o, s.heap.get? T = some o := by
        obtain ⟨_, _, p3, _⟩ := I.tuple (show SqT X.K H T w from .inl (.inl hT))
        obtain ⟨o, ho, _⟩ := id p3
        exact ⟨o, ho⟩
      exact wpAny_bind (zl_item D hz ho hTI h1 h2 p1 p2 (x := u) (y := u2) (by simpa using hu) (by simpa using hu2) fun h' a1 a2 a3 a4 a5 => go h' ⟨true, T, w, a1, by rw [upd_ne (fun e => by rw [e, fn] at hT; cases hT)]; exact hT⟩ ⟨_, _, a5 _ _ (Ne.symm (fun e => D.TOz e.symm)) D.TOi1 D.TOi2 hTO⟩ a2 a3 a4 fun c o c1 _ c3 c4 e => a5 c o c1 c3 c4 e)
theorem nolen_zp : typeLookup (.type "zip") "__len__" = pure none := by rw [typeLookup_type, builtinLookup_eq_fast]; kernel_rfl
theorem nohint_zp : typeLookup (.type "zip") "__length_hint__" = pure none := by rw [typeLookup_type, builtinLookup_eq_fast]; kernel_rfl
/-- list(z), z a zip at its start -/
theorem zl_list {s : Shared} {Q : VK} (hc : X.calm = true) (D : ZipApart z TI TO i1 i2 a b) (hm : xs.length < 1000) (ha0 : H0 a = some (.tup xs)) (hb0 : H0 b = some (.tup ys)) (I : Inv X pins σ H0 s) (hf : ∀ c ∈ [z, TI, TO, i1, i2], FpOk X pins H0 c)
    (hz : IsZip s.heap z TI TO .none) (hTI : IsPair s.heap TI (.ref i1) (.ref i2)) (hTO : ∃ x y, IsPair s.heap TO x y) (h1 : s.heap.IsTupleIter i1 a 0) (h2 : s.heap.IsTupleIter i2 b 0)
    (hQ : ∀ q H acc, H0 q = none → H q = some (.lst (acc.map V.ref)) → (∀ c u, H0 c = some u → H c = some u) → ZPairs H0 xs ys acc H → acc.length = min xs.length ys.length → Q (.ref q) H) :
    wpAny (model X.prog X.w) X.A (call (.type "list") [.ref z]) (EP X pins σ Q) X.xe s := by
  refine callType_codes (Q₁ := fun obj s₁ => obj = .ref s.heap.objs.size ∧ s₁ = { s with heap := s.heap.push { cls := .type "list", data := .seq #[] } }) PySem.F.called_list (PySem.F.typeCall_list_1 _) PySem.F.entry_list_init
    (code_list_new _ ⟨rfl, rfl⟩) fun obj s₁ h₁ => ?_
  obtain ⟨rfl, rfl⟩ := h₁
  have hS : (s.heap.push { cls := .type "list", data := .seq #[] }).get? s.heap.objs.size = some { cls := .type "list", data := .seq #[] } := Heap.get?_push_size _ rfl
  refine ⟨⟨_, hS, rfl⟩, PySem.F.args_list_init_2 _ _, ?_⟩
  have fr : H0 s.heap.objs.size = none := I.hok.fresh (Nat.le_refl _)
  obtain ⟨x0, y0, hTO⟩ := hTO
  have ex : ∀ c ∈ [z, TI, TO, i1, i2], c < s.heap.objs.size := fun c hcm => by
    have e' : c = z ∨ c = TI ∨ c = TO ∨ c = i1 ∨ c = i2 := by simpa using hcm
    rcases e' with e | e | e | e | e
    · rw [e]; exact Heap.lt_size hz
    · rw [e]; exact Heap.lt_size hTI
    · rw [e]; exact Heap.lt_size hTO
    · rw [e]; obtain ⟨_, e1, _⟩ := h1; exact Heap.lt_size e1
    · rw [e]; obtain ⟨_, e2, _⟩ := h2; exact Heap.lt_size e2
  have I1 : Inv X pins σ (upd H0 s.heap.objs.size (.lst [])) { s with heap := s.heap.push { cls := .type "list", data := .seq #[] } } := I.lnew (its := []) (t' := s.toks) .nil (Nat.zero_le _)
  show wpAny _ _ (do let old ← Builtin.List.listItems (.ref s.heap.objs.size); Builtin.List.listUpdate (.ref s.heap.objs.size) (fun _ => #[]); letGo old.toList.reverse; Builtin.List.listExtendWith (.ref s.heap.objs.size) (.ref z) .none) _ _ _
  refine wpAny_bind ?_
  unfold Builtin.List.listItems
  refine wpAny_bind (wpAny_seqItems hS rfl (wpAny_pure ?_))
  show wpAny _ _ (updateSeq s.heap.objs.size (fun _ => #[]) >>= fun _ => letGo (#[] : Array Value).toList.reverse >>= fun _ => Builtin.List.listExtendWith (.ref s.heap.objs.size) (.ref z) .none) _ _ _
  refine wpAny_bind (wpAny_updateSeq hS rfl ?_)
  have hS2 := Heap.get?_update_self (Obj.mapSeq (fun _ => (#[] : Array Value))) hS rfl
  have I2 := I1.lset (f := fun _ => #[]) (its := []) (its' := []) (ys := []) (t' := s.toks) upd_same hS rfl .nil (Nat.zero_le _)
  rw [upd_upd] at I2
  refine wpAny_bind (wpAny_letGo ?_)
  have up1 : ∀ (c : Addr) (o : Obj), s.heap.get? c = some o → ((s.heap.push { cls := .type "list", data := .seq #[] }).update s.heap.objs.size (Obj.mapSeq (fun _ => #[]))).get? c = some o := fun c o e =>
    (Heap.get?_update_other _ _ (Ne.symm (Nat.ne_of_lt (Heap.lt_size e)))).trans (Heap.get?_push_of_some _ e)
  unfold Builtin.List.listExtendWith
  refine wpAny_bind (wpAny_typeOf (T := "zip") ⟨_, up1 _ _ hz, rfl⟩ ?_)
  have q1 : Builtin.List.listSameRef (.ref s.heap.objs.size) (.ref z) = false := by simp [Builtin.List.listSameRef, Nat.ne_of_gt (ex z (by simp))]
  have q2 : (Value.type "zip" == Value.type "list") = false := by decide
  have q3 : (Value.type "zip" == Value.type "tuple") = false := by decide
  simp only [q1, q2, q3, Bool.or_false, Bool.false_eq_true, if_false]
  refine wpAny_bind (wpAny_pyIter_zip (up1 _ _ hz) ?_)
  refine wpAny_bind (wpAny_holding ?_)
  unfold Builtin.List.listLengthHint
  refine wpAny_bind (wpAny_specialOf (T := "zip") ⟨_, up1 _ _ hz, rfl⟩ nolen_zp ?_)
  show wpAny _ _ (specialOf (Value.ref z) (Str.ofString "__length_hint__") >>= _) _ _ _
  refine wpAny_bind (wpAny_specialOf (T := "zip") ⟨_, up1 _ _ hz, rfl⟩ nohint_zp ?_)
  refine wpAny_pure ?_
  show wpAny _ _ (rule "list.extend.makes-room" >>= fun _ => Builtin.List.listTouch (.ref s.heap.objs.size) >>= fun _ =>
    again (.builtin "list.extend.loop" ⟨[.ref s.heap.objs.size, .ref z, .none], []⟩)) _ _ _
  refine wpAny_bind (wpAny_rule ?_)
  refine wpAny_bind ?_
  show wpAny _ _ (updateSeq s.heap.objs.size (·.push .none) >>= fun _ => updateSeq s.heap.objs.size (·.pop)) _ _ _
  refine wpAny_bind (wpAny_updateSeq hS2 rfl ?_)
  have I3 := I2.lset (f := (·.push Value.none)) (its := []) (its' := [Value.none]) (ys := [.non]) (t' := s.toks) upd_same hS2 rfl (.cons rfl .nil) (by rw [List.length_singleton, sizeLine_eq]; decide)
  rw [upd_upd] at I3
  have hS3 := Heap.get?_update_self (Obj.mapSeq (·.push Value.none)) hS2 rfl
  refine wpAny_updateSeq (hz := by seq_fits) hS3 rfl ?_
  have I4 := I3.lset (f := (·.pop)) (its := [Value.none]) (its' := []) (ys := []) (t' := s.toks) upd_same hS3 rfl .nil (Nat.zero_le _)
  rw [upd_upd] at I4
  have nq : ∀ c ∈ [z, TI, TO, i1, i2], c ≠ s.heap.objs.size := fun c hc => Nat.ne_of_lt (ex c hc)
  have up4 : ∀ (c : Addr) (o : Obj), s.heap.get? c = some o → ((((s.heap.push { cls := .type "list", data := .seq #[] }).update s.heap.objs.size (Obj.mapSeq (fun _ => #[]))).update s.heap.objs.size (Obj.mapSeq (·.push Value.none))).update s.heap.objs.size (Obj.mapSeq (·.pop))).get? c = some o := fun c o e =>
    (Heap.get?_update_other _ _ (Ne.symm (Nat.ne_of_lt (Heap.lt_size e)))).trans ((Heap.get?_update_other _ _ (Ne.symm (Nat.ne_of_lt (Heap.lt_size e)))).trans (up1 c o e))
  refine wpAny_pure ⟨plainId_quiet PySem.F.plain_extend_loop _, zl_loop (A1 := X.A.in1) (q := s.heap.objs.size) (H0 := H0) (I.ok.hd hc) D hm ha0 hb0
    (fun acc H s' I' e1 e2 e3 e4 => ?_) (min xs.length ys.length) 0 [] _ _ (by omega) I4 (fun c hcm => ⟨?_, (hf c hcm).2⟩) rfl fr upd_same (fun c u hu => ?_) (fun j t hj => by cases hj) ⟨.inl ⟨rfl, up4 _ _ hz⟩, up4 _ _ hTI, ⟨_, _, up4 _ _ hTO⟩, h1.at fun o e => up4 _ o e, h2.at fun o e => up4 _ o e⟩⟩
  · exact ⟨rfl, .ref s.heap.objs.size, H, I', rfl, hQ _ _ _ fr e1 e2 e3 e4⟩
  · rw [upd_ne (nq c hcm)]
    exact (hf c hcm).1
  · rw [upd_ne (fun e => by rw [e, fr] at hu; cases hu)]
    exact hu
end
section
variable {X : Cx}
def tLz (K : PySem.W.Frag) (ta : TA) : TE := fun σ H Q => ta σ H fun vs H1 => ∃ a b xs ys, vs = [.ref a, .ref b] ∧ H1 a = some (.tup xs) ∧ H1 b = some (.tup ys) ∧ xs.length < 1000 ∧
  ∀ q H2 acc, H1 q = none → H2 q = some (.lst (acc.map V.ref)) → (∀ c u, H1 c = some u → H2 c = some u) → ZPairs H1 xs ys acc H2 → acc.length = min xs.length ys.length → Q (.ref q) H2
theorem pe_lz {e e2 : Expr} {ta : TA} {p pz pos posz : Pos} (hc : X.calm = true) (hgl : Gl X "list") (hml : X.mg "list" = none) (hgz : Gl X "zip") (hmz : X.mg "zip" = none) (ha : PA X [e, e2] ta)
    (hs : starEach [e, e2] X.env = (false, eval e X.env) :: starEach [e2] X.env := by rfl) (hpl : (backTo posz (starEach [e2] X.env)).any (·.1) = false := by rfl)
    (na : starEach [.Call (.Name "zip" pz) [e, e2] [] posz] X.env = (false, eval (.Call (.Name "zip" pz) [e, e2] [] posz) X.env) :: starEach [] X.env := by rfl) :
    PE X (.Call (.Name "list" p) [.Call (.Name "zip" pz) [e, e2] [] posz] [] pos) (tLz X.K ta) := by
  refine ⟨fun pins s σ H Q I h => ?_⟩
  have zipped : wpAny (model X.prog X.w) X.A (eval (.Call (.Name "zip" pz) [e, e2] [] posz) X.env) (fun v s1 => ∃ (z TI TO i1 i2 a b : Addr) (xs ys : List V) (H1 : Hp), v = .ref z ∧ ZipApart z TI TO i1 i2 a b ∧ H1 a = some (.tup xs) ∧ H1 b = some (.tup ys) ∧ xs.length < 1000 ∧
      Inv X pins σ H1 s1 ∧ (∀ c ∈ [z, TI, TO, i1, i2], FpOk X pins H1 c) ∧ IsZip s1.heap z TI TO .none ∧ IsPair s1.heap TI (.ref i1) (.ref i2) ∧ (∃ x y, IsPair s1.heap TO x y) ∧ s1.heap.IsTupleIter i1 a 0 ∧ s1.heap.IsTupleIter i2 b 0 ∧
      ∀ q H2 acc, H1 q = none → H2 q = some (.lst (acc.map V.ref)) → (∀ c u, H1 c = some u → H2 c = some u) → ZPairs H1 xs ys acc H2 → acc.length = min xs.length ys.length → Q (.ref q) H2) X.xe s := by
    refine Call_ (ld_blt I hgz hmz PyProof.Rows.boot_zip (PyProof.Rows.callWith_type1 (thn (ha.run posz pins s σ H _ I h) fun us s1 ⟨vs, H1, I1, r1, q1⟩ => ?_) hs hpl))
    obtain ⟨a, b, xs, ys, rfl, qa, qb, hl, q1⟩ := q1
    cases r1 with
    | cons r rr =>
      cases rr with
      | cons r' rr =>
        cases rr
        cases r
        cases r'
        obtain ⟨its, rv, p1, _⟩ := I1.tuple (show SqT X.K H1 a xs from .of qa)
        obtain ⟨its2, rv2, p2, _⟩ := I1.tuple (show SqT X.K H1 b ys from .of qb)
        obtain ⟨o1, ho1, _⟩ := id p1
        obtain ⟨o2, ho2, _⟩ := id p2
        refine call_zipT (show s1.heap.IsTuple a its.toArray from p1) (show s1.heap.IsTuple b its2.toArray from p2) fun h' hz hTI hTO h1 h2 hsz hk => ?_
        refine ⟨s1.heap.objs.size + 4, s1.heap.objs.size + 2, s1.heap.objs.size + 3, s1.heap.objs.size, s1.heap.objs.size + 1, a, b, xs, ys, H1, rfl, PySem.W.ktu_apart s1.heap.objs.size a b (Heap.lt_size ho1) (Heap.lt_size ho2), qa, qb, hl,
          I1.kept (t' := s1.toks) hk, fun c hcm => ?_, hz, hTI, ⟨_, _, hTO⟩, h1, h2, q1⟩
        have hle : s1.heap.objs.size ≤ c := by
          have e' : c = s1.heap.objs.size + 4 ∨ c = s1.heap.objs.size + 2 ∨ c = s1.heap.objs.size + 3 ∨ c = s1.heap.objs.size ∨ c = s1.heap.objs.size + 1 := by simpa using hcm
          rcases e' with e | e | e | e | e
          · rw [e]; exact Nat.le_add_right _ _
          · rw [e]; exact Nat.le_add_right _ _
          · rw [e]; exact Nat.le_add_right _ _
          · rw [e]; exact Nat.le_refl _
          · rw [e]; exact Nat.le_add_right _ _
        exact I1.fpOk hle (I1.hok.fresh hle)
  refine Call_ (ld_blt I hgl hml boot_list (PyProof.Rows.callWith_type1 (args_cons (thn zipped fun v s1 ⟨z, TI, TO, i1, i2, a, b, xs, ys, H1, ev, D, qa, qb, hl, I1, hf, hz, hTI, hTO, h1, h2, q⟩ => args_nil ?_) na) na))
  subst ev
  exact zl_list hc D hl qa qb I1 hf hz hTI hTO h1 h2 q
end
end Rv
/-! t.count(k), min(t) of a tuple of whole numbers; xs.remove(k) that finds k; a tuple that is spread into a tuple or a call -/
namespace Rv
open PySem PySem.Spec PyProof.Rows L2
section
variable {X : Cx}
def rCntT (K : PySem.W.Frag) : V → List V → Hp → VK → Prop := fun x xs H Q => ∃ (p : Addr) (ns : List Int) (k : Int), x = .ref p ∧ xs = [.int k] ∧ SqT K H p (ns.map V.int) ∧ Q (.int (ns.count k : Nat)) H
theorem cnt_eq (ns : List Int) (k : Int) : ns.countP (fun y => decide (y = k)) = ns.count k := by
  unfold List.count
  congr 1
theorem mt_tcount (hu : X.A.units + 64 < cLine) : MtR X "tuple.count" (rCntT X.K) := by
  intro pins s σ H x xs v us Q I rx rxs h
  obtain ⟨p, ns, k, rfl, rfl, hs, q⟩ := h
  cases rx
  obtain ⟨u, rfl, ru⟩ := rxs.one
  obtain ⟨t, rfl⟩ := ru
  obtain ⟨its, rv, tp, _⟩ := I.tuple hs
  have hi := ints_of_vals rv
  refine PySem.W.count_tuple_datum (show s.heap.IsTuple p its.toArray from tp) (xs := ns) (x := k) (by rw [List.toList_toArray]; exact PySem.W.HoldAll.of_ints hi) (PySem.W.holds_int k t) (by show X.A.units + 1 + 0 < cLine; omega) ?_
  rw [cnt_eq]
  exact ⟨.int (ns.count k : Nat), H, I.tok _, ⟨_, rfl⟩, q⟩
theorem min_fold : ∀ (xs : List Int) (x : Int), (xs.foldl (fun a y => if PySem.W.DatumOrd.lt y a = true then y else a) x ∈ x :: xs) ∧ ∀ y ∈ x :: xs, xs.foldl (fun a y => if PySem.W.DatumOrd.lt y a = true then y else a) x ≤ y := by
  intro xs
  induction xs with
  | nil => exact fun x => ⟨List.mem_cons_self .., fun y hy => by rw [List.mem_singleton.mp hy]; exact Int.le_refl _⟩
  | cons z r ih =>
    intro x
    rw [List.foldl_cons]
    have lt : PySem.W.DatumOrd.lt z x = decide (z < x) := rfl
    obtain ⟨h1, h2⟩ := ih (if PySem.W.DatumOrd.lt z x = true then z else x)
    generalize List.foldl (fun a y => if PySem.W.DatumOrd.lt y a = true then y else a) (if PySem.W.DatumOrd.lt z x = true then z else x) r = m at h1 h2
    rw [lt] at h1 h2
    by_cases c : z < x
    · rw [decide_eq_true c, if_pos rfl] at h1 h2
      refine ⟨List.mem_cons_of_mem _ h1, fun y hy => ?_⟩
      rcases List.mem_cons.mp hy with e | hy
      · have := h2 z (List.mem_cons_self ..)
        omega
      · exact h2 y hy
    · rw [decide_eq_false c, if_neg (by decide)] at h1 h2
      refine ⟨?_, fun y hy => ?_⟩
      · rcases List.mem_cons.mp h1 with e | e
        · rw [e]; exact List.mem_cons_self ..
        · exact List.mem_cons_of_mem _ (List.mem_cons_of_mem _ e)
      · rcases List.mem_cons.mp hy with e | hy
        · rw [e]; exact h2 x (List.mem_cons_self ..)
        · rcases List.mem_cons.mp hy with e | hy
          · have := h2 x (List.mem_cons_self ..)
            omega
          · exact h2 y (List.mem_cons_of_mem _ hy)
def rMinT : List V → Hp → VK → Prop := fun vs H Q => ∃ (a : Addr) (ns : List Int), vs = [V.ref a] ∧ H a = some (.tup (ns.map V.int)) ∧ 0 < ns.length ∧ ∀ m, m ∈ ns → (∀ y, y ∈ ns → m ≤ y) → Q (.int m) H
theorem cr_minT (hc : X.calm = true) (hu : X.A.units + 64 < cLine) : CallR X (.builtin "min") rMinT := by
  intro pins s σ H vs us Q I r h
  obtain ⟨a, ns, rfl, hs, hne, q⟩ := h
  obtain ⟨its, rv, tp, _⟩ := I.tuple (show SqT X.K H a _ from .of hs)
  rw [Vals.ref1 r]
  have hi := ints_of_vals rv
  cases ns with
  | nil => exact absurd hne (Nat.lt_irrefl 0)
  | cons x xs =>
    refine PySem.W.min_tuple_datum (I.ok.hd hc) (show s.heap.IsTuple a its.toArray from tp) (x := x) (xs := xs) (by rw [List.toList_toArray]; exact PySem.W.HoldAll.of_ints hi) (by show X.A.units + 1 + 0 < cLine; omega) fun i v h' tk hv hh hk => ?_
    obtain ⟨h1, h2⟩ := min_fold xs x
    obtain ⟨as, hr⟩ := hh
    have ev : ∃ t, v = .int (PySem.W.minOf x xs) t := by
      generalize hg : (PySem.W.Datum.toD (PySem.W.minOf x xs) : PyData) = d at hr
      have hg' : PyData.int (PySem.W.minOf x xs) = d := hg
      subst hg'
      cases hr with
      | int n t => exact ⟨t, rfl⟩
    obtain ⟨t, rfl⟩ := ev
    exact ⟨.int _, H, I.kept hk, ⟨t, rfl⟩, q _ h1 h2⟩
end
end Rv
/-! rings of a goal, the log over a spare block, and how the rest is spread -/
namespace RL
/-- different numbers below n are at most n -/
theorem nd_len : ∀ (n : Nat) (p : List Nat), p.Nodup → (∀ x ∈ p, x < n) → p.length ≤ n := by
  intro n
  induction n with
  | zero =>
    intro p _ h
    cases p with
    | nil => exact Nat.le_refl _
    | cons x r => exact absurd (h x (List.mem_cons_self ..)) (Nat.not_lt_zero _)
  | succ n ih =>
    intro p nd h
    by_cases k : n ∈ p
    · have e := List.length_erase_of_mem k
      have := ih (p.erase n) (nd.erase n) fun x hx => by
        have h1 := h x (List.mem_of_mem_erase hx)
        have h2 : x ≠ n := fun z => by rw [z] at hx; exact absurd hx (nd.not_mem_erase)
        omega
      have : 0 < p.length := List.length_pos_of_mem k
      omega
    · have := ih p nd fun x hx => by
        have h1 := h x hx
        have h2 : x ≠ n := fun z => k (z ▸ hx)
        omega
      omega
/-- a list without repeats whose members lie in a list that is no longer: the same members -/
theorem perm_of : ∀ (W L : List Nat), W.Nodup → (∀ x ∈ W, x ∈ L) → L.length ≤ W.length → L.Perm W := by
  intro W
  induction W with
  | nil =>
    intro L _ _ hl
    have : L = [] := List.eq_nil_of_length_eq_zero (Nat.le_zero.mp hl)
    rw [this]
  | cons w r ih =>
    intro L nd hs hl
    have hw := hs w (List.mem_cons_self ..)
    have nd' := List.nodup_cons.mp nd
    have e := List.length_erase_of_mem hw
    rw [List.length_cons] at hl
    have := ih (L.erase w) nd'.2 (fun x hx => (List.mem_erase_of_ne (fun z => nd'.1 (by rw [← z]; exact hx))).mpr (hs x (List.mem_cons_of_mem _ hx))) (by omega)
    exact (List.perm_cons_erase hw).trans (this.cons w)
theorem nd_inj {p : List Nat} (nd : p.Nodup) {i j x : Nat} (hi : p[i]? = some x) (hj : p[j]? = some x) : i = j := by
  obtain ⟨l1, e1⟩ := List.getElem?_eq_some_iff.mp hi
  obtain ⟨l2, e2⟩ := List.getElem?_eq_some_iff.mp hj
  have pw := List.pairwise_iff_getElem.mp nd
  rcases Nat.lt_trichotomy i j with h | h | h
  · exact absurd (e1.trans e2.symm) (pw i j l1 l2 h)
  · exact h
  · exact absurd (e2.trans e1.symm) (pw j i l2 l1 h)
variable {g : Nat → Nat} {n : Nat}
def fol (g : Nat → Nat) : Nat → List Nat → List Nat
  | 0, p => p
  | k + 1, p => if g (p.getLastD 0) ∈ p then p else fol g k (p ++ [g (p.getLastD 0)])
structure Pth (g : Nat → Nat) (n b : Nat) (p : List Nat) : Prop where
  hd : p[0]? = some b
  nd : p.Nodup
  lt : ∀ x ∈ p, x < n
  st : ∀ i x y, p[i]? = some x → p[i + 1]? = some y → y = g x
theorem Pth.start {b : Nat} (h : b < n) : Pth g n b [b] := ⟨rfl, by simp, fun x hx => by rw [List.mem_singleton.mp hx]; exact h, fun i x y _ h2 => by simp at h2⟩
theorem Pth.ne {b : Nat} {p : List Nat} (P : Pth g n b p) : p ≠ [] := fun e => by have := P.hd; rw [e] at this; cases this
theorem last_at {p : List Nat} (h : p ≠ []) : p[p.length - 1]? = some (p.getLastD 0) := by
  rw [List.getLastD_eq_getLast?, List.getLast?_eq_getElem?]
  cases p with
  | nil => exact absurd rfl h
  | cons x r =>
    rw [List.getElem?_eq_getElem (by rw [List.length_cons]; omega)]
    rfl
theorem last_mem {p : List Nat} (h : p ≠ []) : p.getLastD 0 ∈ p := List.mem_of_getElem? (last_at h)
theorem last_snoc (p : List Nat) (x : Nat) : (p ++ [x]).getLastD 0 = x := by
  have h := last_at (p := p ++ [x]) (by simp)
  rw [List.length_append, List.length_singleton, Nat.add_sub_cancel, List.getElem?_append_right (Nat.le_refl _), Nat.sub_self] at h
  exact (Option.some.inj h).symm
theorem Pth.next {b : Nat} {p : List Nat} (P : Pth g n b p) (h : g (p.getLastD 0) ∉ p) (hl : g (p.getLastD 0) < n) : Pth g n b (p ++ [g (p.getLastD 0)]) := by
  have hp : 0 < p.length := List.length_pos_iff.mpr P.ne
  refine ⟨by rw [List.getElem?_append_left hp]; exact P.hd, ?_, fun x hx => ?_, fun i x y h1 h2 => ?_⟩
  · rw [List.nodup_append]
    exact ⟨P.nd, by simp, fun a ha b hb => by rw [List.mem_singleton.mp hb]; exact fun z => h (z ▸ ha)⟩
  · rcases List.mem_append.mp hx with k | k
    · exact P.lt x k
    · rw [List.mem_singleton.mp k]; exact hl
  · have h3 := (List.getElem?_eq_some_iff.mp h2).1
    rw [List.length_append, List.length_singleton] at h3
    rw [List.getElem?_append_left (by omega)] at h1
    by_cases k : i + 1 < p.length
    · rw [List.getElem?_append_left k] at h2
      exact P.st i x y h1 h2
    · have e : i = p.length - 1 := by omega
      rw [List.getElem?_append_right (by omega), show i + 1 - p.length = 0 by omega] at h2
      rw [e, last_at P.ne] at h1
      cases h1
      cases h2
      rfl
theorem Pth.len {b : Nat} {p : List Nat} (P : Pth g n b p) : p.length ≤ n := nd_len n p P.nd P.lt
theorem fol_stop {p : List Nat} (h : g (p.getLastD 0) ∈ p) : ∀ k, fol g k p = p
  | 0 => rfl
  | k + 1 => if_pos h
theorem fol_step {p : List Nat} (h : g (p.getLastD 0) ∉ p) (k : Nat) : fol g (k + 1) p = fol g k (p ++ [g (p.getLastD 0)]) := if_neg h
theorem fol_pre : ∀ k p, ∃ q, fol g k p = p ++ q := by
  intro k
  induction k with
  | zero => exact fun p => ⟨[], (List.append_nil p).symm⟩
  | succ k ih =>
    intro p
    by_cases h : g (p.getLastD 0) ∈ p
    · exact ⟨[], by rw [fol_stop h, List.append_nil]⟩
    · obtain ⟨q, e⟩ := ih (p ++ [g (p.getLastD 0)])
      exact ⟨g (p.getLastD 0) :: q, by rw [fol_step h, e, List.append_assoc]; rfl⟩
/-- the way from a block ends where it comes back to itself -/
theorem fol_end (hg : ∀ b, b < n → g b < n) {b : Nat} : ∀ k p, Pth g n b p → p.length + k = n + 1 → Pth g n b (fol g k p) ∧ g ((fol g k p).getLastD 0) ∈ fol g k p := by
  intro k
  induction k with
  | zero =>
    intro p P hl
    have := P.len
    omega
  | succ k ih =>
    intro p P hl
    by_cases h : g (p.getLastD 0) ∈ p
    · rw [fol_stop h]; exact ⟨P, h⟩
    · rw [fol_step h]
      exact ih _ (P.next h (hg _ (P.lt _ (last_mem P.ne)))) (by rw [List.length_append, List.length_singleton]; omega)
def F (g : Nat → Nat) (n b : Nat) : List Nat := fol g n [b]
theorem F_end (hg : ∀ b, b < n → g b < n) {b : Nat} (hb : b < n) : Pth g n b (F g n b) ∧ g ((F g n b).getLastD 0) ∈ F g n b := fol_end hg n [b] (.start hb) (by rw [List.length_singleton]; omega)
def IsR (g : Nat → Nat) (p : List Nat) : Prop := 1 < p.length ∧ g (p.getLastD 0) = p.headD 0 ∧ ∀ x ∈ p, p.headD 0 ≤ x
instance {g : Nat → Nat} {p : List Nat} : Decidable (IsR g p) := by unfold IsR; exact inferInstance
theorem Pth.headD {b : Nat} {p : List Nat} (P : Pth g n b p) : p.headD 0 = b := by
  have h := P.hd
  cases p with
  | nil => cases h
  | cons x r => exact Option.some.inj h
/-- a ring: its way, and each block in it leads into it -/
structure Rng (g : Nat → Nat) (n : Nat) (p : List Nat) : Prop where
  b : Pth g n (p.headD 0) p
  r : IsR g p
theorem Rng.next {p : List Nat} (R : Rng g n p) {x : Nat} (hx : x ∈ p) : g x ∈ p := by
  obtain ⟨i, hi⟩ := List.getElem?_of_mem hx
  by_cases k : i + 1 < p.length
  · have h2 : p[i + 1]? = some p[i + 1] := List.getElem?_eq_getElem k
    rw [← R.b.st i x _ hi h2]
    exact List.getElem_mem k
  · have h3 := (List.getElem?_eq_some_iff.mp hi).1
    have e : i = p.length - 1 := by omega
    rw [e, last_at R.b.ne] at hi
    cases hi
    rw [R.r.2.1]
    exact List.mem_of_getElem? R.b.hd
theorem Rng.prev {p : List Nat} (R : Rng g n p) {x : Nat} (hx : x ∈ p) : ∃ y ∈ p, g y = x := by
  obtain ⟨i, hi⟩ := List.getElem?_of_mem hx
  have h3 := (List.getElem?_eq_some_iff.mp hi).1
  cases i with
  | zero =>
    rw [R.b.hd] at hi
    exact ⟨_, last_mem R.b.ne, R.r.2.1.trans (Option.some.inj hi)⟩
  | succ i =>
    have h2 : p[i]? = some p[i] := List.getElem?_eq_getElem (by omega)
    exact ⟨_, List.mem_of_getElem? h2, (R.b.st i _ x h2 hi).symm⟩
theorem Rng.moves {p : List Nat} (R : Rng g n p) {x : Nat} (hx : x ∈ p) : g x ≠ x := by
  intro e
  have h1 := R.r.1
  obtain ⟨i, hi⟩ := List.getElem?_of_mem hx
  have inj : ∀ j, p[j]? = some x → j = i := fun j hj => nd_inj R.b.nd hj hi
  have h3 := (List.getElem?_eq_some_iff.mp hi).1
  by_cases k : i + 1 < p.length
  · have h2 : p[i + 1]? = some p[i + 1] := List.getElem?_eq_getElem k
    have := R.b.st i x _ hi h2
    rw [this, e] at h2
    have := inj _ h2
    omega
  · have e2 : i = p.length - 1 := by omega
    have h4 := hi
    rw [e2, last_at R.b.ne] at h4
    have h5 := R.r.2.1
    rw [Option.some.inj h4, e] at h5
    have := inj 0 (by rw [h5]; exact R.b.hd)
    omega
theorem ring_sub {p q : List Nat} (R : Rng g n p) (S : Rng g n q) {x : Nat} (h1 : x ∈ p) (h2 : x ∈ q) : ∀ y ∈ q, y ∈ p := by
  have run : ∀ (d i : Nat), (∀ z : Nat, q[i]? = some z → z ∈ p) → ∀ z : Nat, q[i + d]? = some z → z ∈ p := by
    intro d
    induction d with
    | zero => exact fun i h z hz => h z hz
    | succ d ih =>
      intro i h z hz
      have h3 := (List.getElem?_eq_some_iff.mp hz).1
      have h4 : q[i + d]? = some q[i + d] := List.getElem?_eq_getElem (by omega)
      have := ih i h _ h4
      rw [S.b.st (i + d) _ z h4 hz]
      exact R.next this
  obtain ⟨i, hi⟩ := List.getElem?_of_mem h2
  have h3 := (List.getElem?_eq_some_iff.mp hi).1
  have hl : q.getLastD 0 ∈ p := run (q.length - 1 - i) i (fun z hz => by rw [hi] at hz; cases hz; exact h1) _ (by rw [show i + (q.length - 1 - i) = q.length - 1 by omega]; exact last_at S.b.ne)
  have h0 : q.headD 0 ∈ p := by rw [← S.r.2.1]; exact R.next hl
  intro y hy
  obtain ⟨j, hj⟩ := List.getElem?_of_mem hy
  exact run j 0 (fun z hz => by rw [S.b.hd] at hz; cases hz; exact h0) y (by rw [Nat.zero_add]; exact hj)
theorem ring_head {p q : List Nat} (R : Rng g n p) (S : Rng g n q) {x : Nat} (h1 : x ∈ p) (h2 : x ∈ q) : p.headD 0 = q.headD 0 := by
  have a := R.r.2.2 _ (ring_sub R S h1 h2 _ (List.mem_of_getElem? S.b.hd))
  have b := S.r.2.2 _ (ring_sub S R h2 h1 _ (List.mem_of_getElem? R.b.hd))
  omega
theorem sub_len : ∀ (A B : List Nat), A.Nodup → (∀ x ∈ A, x ∈ B) → A.length ≤ B.length := by
  intro A
  induction A with
  | nil => exact fun B _ _ => Nat.zero_le _
  | cons w r ih =>
    intro B nd hs
    have hw := hs w (List.mem_cons_self ..)
    have nd' := List.nodup_cons.mp nd
    have e := List.length_erase_of_mem hw
    have := ih (B.erase w) nd'.2 fun x hx => (List.mem_erase_of_ne (fun z => nd'.1 (by rw [← z]; exact hx))).mpr (hs x (List.mem_cons_of_mem _ hx))
    have : 0 < B.length := List.length_pos_of_mem hw
    rw [List.length_cons]
    omega
/-! counts -/
theorem cnt_two {v : Int} : ∀ (gs : List Int) (i j : Nat), i < j → gs[i]? = some v → gs[j]? = some v → 2 ≤ gs.count v := by
  intro gs
  induction gs with
  | nil => exact fun i j _ h => by simp at h
  | cons x r ih =>
    intro i j hij hi hj
    cases j with
    | zero => exact absurd hij (Nat.not_lt_zero _)
    | succ j =>
      rw [List.getElem?_cons_succ] at hj
      cases i with
      | zero =>
        rw [List.getElem?_cons_zero] at hi
        cases hi
        have : 0 < r.count v := List.count_pos_iff.mpr (List.mem_of_getElem? hj)
        rw [List.count_cons_self]
        omega
      | succ i =>
        rw [List.getElem?_cons_succ] at hi
        have h1 := ih i j (by omega) hi hj
        have h2 : r.count v ≤ (x :: r).count v := by
          rw [List.count_cons]
          exact Nat.le_add_right _ _
        omega
theorem cnt_uniq {gs : List Int} {v : Int} (h : gs.count v = 1) {i j : Nat} (hi : gs[i]? = some v) (hj : gs[j]? = some v) : i = j := by
  rcases Nat.lt_trichotomy i j with k | k | k
  · have := cnt_two gs i j k hi hj
    omega
  · exact k
  · have := cnt_two gs j i k hj hi
    omega
theorem cnt_one {v : Int} : ∀ (gs : List Int), v ∈ gs → (∀ i j : Nat, gs[i]? = some v → gs[j]? = some v → i = j) → gs.count v = 1 := by
  intro gs
  induction gs with
  | nil => exact fun h => by simp at h
  | cons x r ih =>
    intro hm hu
    by_cases e : x = v
    · subst e
      have h0 : x ∉ r := fun h => by
        obtain ⟨j, hj⟩ := List.getElem?_of_mem h
        have := hu 0 (j + 1) rfl (by rw [List.getElem?_cons_succ]; exact hj)
        omega
      rw [List.count_cons_self, List.count_eq_zero_of_not_mem h0]
    · rw [List.count_cons_of_ne e]
      refine ih ?_ fun i j hi hj => ?_
      · rcases List.mem_cons.mp hm with k | k
        · exact absurd k.symm e
        · exact k
      · have := hu (i + 1) (j + 1) (by rw [List.getElem?_cons_succ]; exact hi) (by rw [List.getElem?_cons_succ]; exact hj)
        omega
/-! the goal -/
structure GOk (gs : List Int) : Prop where
  l1 : 1 ≤ gs.length
  l12 : gs.length ≤ 12
  en : ∀ e ∈ gs, 0 ≤ e ∧ e < gs.length
def gn (gs : List Int) (b : Nat) : Nat := (gs.getD b 0).toNat
variable {gs : List Int}
theorem GOk.at (G : GOk gs) {b : Nat} (h : b < gs.length) : gs[b]? = some (gn gs b : Int) ∧ gn gs b < gs.length := by
  have e : gs[b]? = some gs[b] := List.getElem?_eq_getElem h
  have h1 := G.en _ (List.getElem_mem h)
  have h2 : gs.getD b 0 = gs[b] := by rw [List.getD_eq_getElem?_getD, e]; rfl
  unfold gn
  rw [h2, e]
  exact ⟨by rw [Int.toNat_of_nonneg h1.1], by omega⟩
theorem GOk.lt (G : GOk gs) : ∀ b, b < gs.length → gn gs b < gs.length := fun _ h => (G.at h).2
theorem GOk.getD (G : GOk gs) {b : Nat} (h : b < gs.length) : gs.getD b 0 = (gn gs b : Int) := by rw [List.getD_eq_getElem?_getD, (G.at h).1]; rfl
def One (gs : List Int) (p : List Nat) : Prop := ∀ b ∈ p, gs.count (b : Int) = 1
instance {gs : List Int} {p : List Nat} : Decidable (One gs p) := by unfold One; exact inferInstance
def ways (gs : List Int) (i : Nat) : List (List Nat) := (List.range i).map (F (gn gs) gs.length)
def rgs (gs : List Int) (i : Nat) : List (List Nat) := (ways gs i).filter fun p => decide (IsR (gn gs) p)
def clo (gs : List Int) (i : Nat) : List (List Nat) := (rgs gs i).filter fun p => decide (One gs p)
abbrev clos (gs : List Int) : List (List Nat) := clo gs gs.length
theorem ways_next (i : Nat) : ways gs (i + 1) = ways gs i ++ [F (gn gs) gs.length i] := by
  unfold ways
  rw [List.range_succ, List.map_append]
  rfl
theorem clo_next (i : Nat) : clo gs (i + 1) = clo gs i ++ if IsR (gn gs) (F (gn gs) gs.length i) ∧ One gs (F (gn gs) gs.length i) then [F (gn gs) gs.length i] else [] := by
  unfold clo rgs
  rw [ways_next, List.filter_append, List.filter_append]
  congr 1
  by_cases h1 : IsR (gn gs) (F (gn gs) gs.length i)
  · rw [List.filter_cons_of_pos (by rw [decide_eq_true h1])]
    by_cases h2 : One gs (F (gn gs) gs.length i)
    · rw [List.filter_nil, List.filter_cons_of_pos (by rw [decide_eq_true h2]), if_pos ⟨h1, h2⟩]
      rfl
    · rw [List.filter_nil, List.filter_cons_of_neg (by rw [decide_eq_false h2]; decide), if_neg (fun z => h2 z.2)]
      rfl
  · rw [List.filter_cons_of_neg (by rw [decide_eq_false h1]; decide), if_neg (fun z => h1 z.1)]
    rfl
theorem clo_of {i : Nat} {p : List Nat} (h : p ∈ clo gs i) : ∃ b, b < i ∧ p = F (gn gs) gs.length b ∧ IsR (gn gs) p ∧ One gs p := by
  unfold clo rgs ways at h
  rw [List.mem_filter, List.mem_filter, List.mem_map] at h
  obtain ⟨⟨⟨b, hb, e⟩, h2⟩, h3⟩ := h
  exact ⟨b, List.mem_range.mp hb, e.symm, of_decide_eq_true h2, of_decide_eq_true h3⟩
theorem clos_of (G : GOk gs) {p : List Nat} (h : p ∈ clos gs) : Rng (gn gs) gs.length p ∧ One gs p := by
  obtain ⟨b, hb, e, h1, h2⟩ := clo_of h
  have P := (F_end (G.lt) hb).1
  rw [← e] at P
  exact ⟨⟨by rw [P.headD]; exact P, h1⟩, h2⟩
theorem clos_mem (G : GOk gs) {b : Nat} (hb : b < gs.length) (h1 : IsR (gn gs) (F (gn gs) gs.length b)) (h2 : One gs (F (gn gs) gs.length b)) : F (gn gs) gs.length b ∈ clos gs := by
  unfold clos clo rgs ways
  rw [List.mem_filter, List.mem_filter, List.mem_map]
  exact ⟨⟨⟨b, List.mem_range.mpr hb, rfl⟩, decide_eq_true h1⟩, decide_eq_true h2⟩
theorem clos_apart (G : GOk gs) : (clos gs).Pairwise fun p q => ∀ x ∈ p, x ∉ q := by
  have w : (ways gs gs.length).Pairwise fun p q => IsR (gn gs) p → IsR (gn gs) q → ∀ x ∈ p, x ∉ q := by
    unfold ways
    rw [List.pairwise_map]
    refine List.Pairwise.imp_of_mem ?_ (List.pairwise_lt_range (n := gs.length))
    intro a b ha hb hab ra rb x h1 h2
    have P := (F_end (G.lt) (List.mem_range.mp ha)).1
    have Q := (F_end (G.lt) (List.mem_range.mp hb)).1
    have := ring_head (p := F (gn gs) gs.length a) (q := F (gn gs) gs.length b) ⟨by rw [P.headD]; exact P, ra⟩ ⟨by rw [Q.headD]; exact Q, rb⟩ h1 h2
    rw [P.headD, Q.headD] at this
    omega
  have w2 : (rgs gs gs.length).Pairwise fun p q => ∀ x ∈ p, x ∉ q := by
    unfold rgs
    rw [List.pairwise_filter]
    exact w.imp fun h a b => h (of_decide_eq_true a) (of_decide_eq_true b)
  exact w2.filter _
abbrev inr (gs : List Int) : List Nat := (clos gs).flatten
theorem mem_inr {x : Nat} : x ∈ inr gs ↔ ∃ p ∈ clos gs, x ∈ p := List.mem_flatten
theorem inr_nd (G : GOk gs) : (inr gs).Nodup := by
  unfold List.Nodup
  rw [List.pairwise_flatten]
  exact ⟨fun p hp => (clos_of G hp).1.b.nd, (clos_apart G).imp fun h x hx y hy => fun e => h x hx (by rw [show x = y from e]; exact hy)⟩
def mov (gs : List Int) (i : Nat) : List Nat := (List.range i).filter fun b => decide (gn gs b ≠ b)
def rst (gs : List Int) : List Nat := (mov gs gs.length).filter fun b => decide (b ∉ inr gs)
theorem mem_mov {x i : Nat} : x ∈ mov gs i ↔ x < i ∧ gn gs x ≠ x := by
  unfold mov
  rw [List.mem_filter, List.mem_range, decide_eq_true_eq]
theorem mem_rst {x : Nat} : x ∈ rst gs ↔ x < gs.length ∧ gn gs x ≠ x ∧ x ∉ inr gs := by
  unfold rst
  rw [List.mem_filter, mem_mov, decide_eq_true_eq, and_assoc]
theorem nd_mov (i : Nat) : (mov gs i).Nodup := List.Pairwise.filter _ List.nodup_range
theorem nd_rst : (rst gs).Nodup := List.Pairwise.filter _ (nd_mov _)
theorem mov_len (G : GOk gs) : (mov gs gs.length).length = (inr gs).length + (rst gs).length := by
  have nd : (inr gs ++ rst gs).Nodup := List.nodup_append.mpr ⟨inr_nd G, nd_rst, fun a ha b hb e => (mem_rst.mp hb).2.2 (e ▸ ha)⟩
  have h1 := sub_len (mov gs gs.length) (inr gs ++ rst gs) (nd_mov _) fun x hx => by
    rw [List.mem_append]
    by_cases k : x ∈ inr gs
    · exact .inl k
    · exact .inr (mem_rst.mpr ⟨(mem_mov.mp hx).1, (mem_mov.mp hx).2, k⟩)
  have h2 := sub_len (inr gs ++ rst gs) (mov gs gs.length) nd fun x hx => by
    rcases List.mem_append.mp hx with k | k
    · obtain ⟨p, hp, hx⟩ := mem_inr.mp k
      exact mem_mov.mpr ⟨(clos_of G hp).1.b.lt x hx, (clos_of G hp).1.moves hx⟩
    · exact mem_mov.mpr ⟨(mem_rst.mp k).1, (mem_rst.mp k).2.1⟩
  rw [List.length_append] at h1 h2
  omega
/-! what a log of pairs (target, source) does -/
def ap (c : Nat → Nat) (q : Nat × Nat) : Nat → Nat := fun b => if b = q.1 then c q.2 else c b
def run (c : Nat → Nat) (qs : List (Nat × Nat)) : Nat → Nat := qs.foldl ap c
theorem run_app (c : Nat → Nat) (a b : List (Nat × Nat)) : run c (a ++ b) = run (run c a) b := List.foldl_append ..
/-- the pairs of a way, its end from s -/
def tp : Nat → List Nat → Nat → List (Nat × Nat)
  | a, [], s => [(a, s)]
  | a, x :: r, s => (a, x) :: tp x r s
theorem tp_len : ∀ (r : List Nat) (a s : Nat), (tp a r s).length = r.length + 1
  | [], _, _ => rfl
  | x :: r, a, s => by
    show (tp x r s).length + 1 = _
    rw [tp_len r x s, List.length_cons]
theorem tp_at : ∀ (r : List Nat) (a s i x y : Nat), (tp a r s)[i]? = some (x, y) → (a :: r)[i]? = some x ∧ (r ++ [s])[i]? = some y
  | [], a, s, i, x, y, h => by
    cases i with
    | zero => cases h; exact ⟨rfl, rfl⟩
    | succ i => cases h
  | z :: r, a, s, i, x, y, h => by
    cases i with
    | zero => cases h; exact ⟨rfl, rfl⟩
    | succ i => exact tp_at r z s i x y h
theorem tp_run : ∀ (r : List Nat) (a s : Nat) (c : Nat → Nat), (a :: r).Nodup → s ∉ a :: r →
    (∀ i x y : Nat, (a :: r)[i]? = some x → (r ++ [s])[i]? = some y → run c (tp a r s) x = c y) ∧ ∀ z, z ∉ a :: r → run c (tp a r s) z = c z
  | [], a, s, c, nd, hs => by
    refine ⟨fun i x y h1 h2 => ?_, fun z hz => ?_⟩
    · cases i with
      | zero => cases h1; cases h2; exact if_pos rfl
      | succ i => cases h1
    · exact if_neg (fun e => hz (by rw [show z = a from e]; exact List.mem_cons_self ..))
  | w :: r, a, s, c, nd, hs => by
    have nd' := List.nodup_cons.mp nd
    obtain ⟨h1, h2⟩ := tp_run r w s (ap c (a, w)) nd'.2 fun k => hs (List.mem_cons_of_mem _ k)
    have sa : s ≠ a := fun e => hs (by rw [e]; exact List.mem_cons_self ..)
    show (∀ i x y : Nat, _ → _ → run (ap c (a, w)) (tp w r s) x = c y) ∧ ∀ z, _ → run (ap c (a, w)) (tp w r s) z = c z
    refine ⟨fun i x y e1 e2 => ?_, fun z hz => ?_⟩
    · cases i with
      | zero =>
        cases e1
        cases e2
        rw [h2 a nd'.1]
        exact if_pos rfl
      | succ i =>
        rw [List.getElem?_cons_succ] at e1
        rw [List.cons_append, List.getElem?_cons_succ] at e2
        rw [h1 i x y e1 e2]
        refine if_neg fun e => ?_
        have e : y = a := e
        rcases List.mem_append.mp (List.mem_of_getElem? e2) with k | k
        · exact nd'.1 (List.mem_cons_of_mem _ (e ▸ k))
        · exact sa ((List.mem_singleton.mp k).symm.trans e)
    · rw [h2 z fun k => hz (List.mem_cons_of_mem _ k)]
      exact if_neg (fun e => hz (by rw [show z = a from e]; exact List.mem_cons_self ..))
/-- a ring over a spare block -/
theorem ring_run {p : List Nat} {s : Nat} {c : Nat → Nat} (R : Rng g n p) (hs : s ∉ p) (hc : ∀ x ∈ p, c x = x) :
    (∀ x ∈ p, run c (tp s p s) x = g x) ∧ ∀ z, z ∉ p → z ≠ s → run c (tp s p s) z = c z := by
  have hh := R.r.2.1
  have B := R.b
  cases p with
  | nil => exact absurd rfl R.b.ne
  | cons a r =>
    obtain ⟨h1, h2⟩ := tp_run r a s (ap c (s, a)) B.nd hs
    show (∀ x ∈ a :: r, run (ap c (s, a)) (tp a r s) x = g x) ∧ ∀ z, z ∉ a :: r → z ≠ s → run (ap c (s, a)) (tp a r s) z = c z
    refine ⟨fun x hx => ?_, fun z hz zs => ?_⟩
    · obtain ⟨i, hi⟩ := List.getElem?_of_mem hx
      have li := (List.getElem?_eq_some_iff.mp hi).1
      by_cases k : i + 1 < (a :: r).length
      · have e2 : (a :: r)[i + 1]? = some (a :: r)[i + 1] := List.getElem?_eq_getElem k
        have e3 := B.st i x _ hi e2
        rw [e3] at e2
        have e4 : (r ++ [s])[i]? = some (g x) := by
          rw [List.getElem?_cons_succ] at e2
          rw [List.getElem?_append_left (List.getElem?_eq_some_iff.mp e2).1]
          exact e2
        rw [h1 i x _ hi e4]
        have gm : g x ∈ a :: r := List.mem_of_getElem? e2
        have : ap c (s, a) (g x) = c (g x) := if_neg (fun e => hs (by rw [← show g x = s from e]; exact gm))
        rw [this, hc _ gm]
      · have e5 : i = (a :: r).length - 1 := by omega
        have hi2 := hi
        rw [e5, last_at B.ne] at hi2
        have ex := Option.some.inj hi2
        have e4 : (r ++ [s])[i]? = some s := by
          rw [List.length_cons] at e5
          rw [List.getElem?_append_right (by omega), show i - r.length = 0 by omega]
          rfl
        rw [h1 i x s hi e4, ← ex, hh]
        have : ap c (s, a) s = c a := if_pos rfl
        rw [this]
        exact hc a (List.mem_cons_self ..)
    · rw [h2 z hz]
      exact if_neg zs
theorem rings_run {s : Nat} : ∀ (ps : List (List Nat)) (c : Nat → Nat), (∀ p ∈ ps, Rng g n p ∧ s ∉ p) → (ps.Pairwise fun p q => ∀ x ∈ p, x ∉ q) → (∀ x ∈ ps.flatten, c x = x) →
    (∀ x ∈ ps.flatten, run c (ps.flatMap fun p => tp s p s) x = g x) ∧ ∀ z, z ∉ ps.flatten → z ≠ s → run c (ps.flatMap fun p => tp s p s) z = c z := by
  intro ps
  induction ps with
  | nil => exact fun c _ _ _ => ⟨fun x hx => by simp at hx, fun z _ _ => rfl⟩
  | cons p r ih =>
    intro c hp pw hc
    rw [List.flatMap_cons, run_app]
    have pw' := List.pairwise_cons.mp pw
    have hp1 := hp p (List.mem_cons_self ..)
    obtain ⟨a1, a2⟩ := ring_run (c := c) hp1.1 hp1.2 fun x hx => hc x (by rw [List.flatten_cons]; exact List.mem_append_left _ hx)
    have ap_ : ∀ x ∈ r.flatten, x ∉ p ∧ x ≠ s := fun x hx => by
      obtain ⟨q, hq, hx⟩ := List.mem_flatten.mp hx
      exact ⟨fun k => pw'.1 q hq x k hx, fun e => (hp q (List.mem_cons_of_mem _ hq)).2 (by rw [← e]; exact hx)⟩
    obtain ⟨b1, b2⟩ := ih (run c (tp s p s)) (fun q hq => hp q (List.mem_cons_of_mem _ hq)) pw'.2 fun x hx => by
      rw [a2 x (ap_ x hx).1 (ap_ x hx).2]
      exact hc x (by rw [List.flatten_cons]; exact List.mem_append_right _ hx)
    refine ⟨fun x hx => ?_, fun z hz zs => ?_⟩
    · by_cases k : x ∈ r.flatten
      · exact b1 x k
      · rw [List.flatten_cons] at hx
        rcases List.mem_append.mp hx with k2 | k2
        · rw [b2 x k fun e => hp1.2 (by rw [← e]; exact k2)]
          exact a1 x k2
        · exact absurd k2 k
    · rw [List.flatten_cons] at hz
      rw [b2 z (fun k => hz (List.mem_append_right _ k)) zs, a2 z (fun k => hz (List.mem_append_left _ k)) zs]
theorem tps_len {s : Nat} : ∀ ps : List (List Nat), (ps.flatMap fun p => tp s p s).length = ps.flatten.length + ps.length
  | [] => rfl
  | p :: r => by
    rw [List.flatMap_cons, List.length_append, tps_len r, tp_len, List.flatten_cons, List.length_append, List.length_cons]
    omega
def VP (n : Nat) (q : Nat × Nat) : Prop := q.1 < n ∧ q.2 < n ∧ q.1 ≠ q.2
theorem ring_vp {p : List Nat} {s : Nat} (R : Rng g n p) (hs : s ∉ p) (hn : s < n) : ∀ q ∈ tp s p s, VP n q := by
  intro q hq
  obtain ⟨i, hi⟩ := List.getElem?_of_mem hq
  obtain ⟨x, y⟩ := q
  obtain ⟨h1, h2⟩ := tp_at p s s i x y hi
  have lx : x < n := by
    rcases List.mem_cons.mp (List.mem_of_getElem? h1) with e | e
    · rw [e]; exact hn
    · exact R.b.lt x e
  have ly : y < n := by
    rcases List.mem_append.mp (List.mem_of_getElem? h2) with e | e
    · exact R.b.lt y e
    · rw [List.mem_singleton.mp e]; exact hn
  refine ⟨lx, ly, fun e => ?_⟩
  have e : x = y := e
  subst e
  cases i with
  | zero =>
    cases h1
    rw [List.getElem?_append_left (List.length_pos_iff.mpr R.b.ne)] at h2
    exact hs (List.mem_of_getElem? h2)
  | succ i =>
    rw [List.getElem?_cons_succ] at h1
    by_cases k : i + 1 < p.length
    · rw [List.getElem?_append_left k] at h2
      have := nd_inj R.b.nd h1 h2
      omega
    · have l2 := (List.getElem?_eq_some_iff.mp h2).1
      rw [List.length_append, List.length_singleton] at l2
      rw [List.getElem?_append_right (by omega), show i + 1 - p.length = 0 by omega] at h2
      cases h2
      exact hs (List.mem_of_getElem? h1)
/-! the rest is spread -/
def rows0 (gs : List Int) (s : Nat) : List (Nat × Nat) := (clos gs).flatMap fun p => tp s p s
/-- s is a number that the goal doesn't want, if there is a closed ring -/
def Spare (gs : List Int) (s : Nat) : Prop := clos gs ≠ [] → s < gs.length ∧ ∀ b, b < gs.length → gn gs b ≠ s
theorem Spare.out (G : GOk gs) {s : Nat} (S : Spare gs s) {p : List Nat} (hp : p ∈ clos gs) : s ∉ p := fun hx => by
  obtain ⟨y, hy, e⟩ := (clos_of G hp).1.prev hx
  exact (S (fun e => by rw [e] at hp; cases hp)).2 y ((clos_of G hp).1.b.lt y hy) e
def c0 (gs : List Int) (s : Nat) : Nat → Nat := run id (rows0 gs s)
theorem c0_in (G : GOk gs) {s : Nat} (S : Spare gs s) : (∀ x ∈ inr gs, c0 gs s x = gn gs x) ∧ ∀ z, z ∉ inr gs → z ≠ s → c0 gs s z = z :=
  rings_run (clos gs) id (fun p hp => ⟨(clos_of G hp).1, S.out G hp⟩) (clos_apart G) fun _ _ => rfl
/-- a block that is wanted by one outside of the rings lies in no ring -/
theorem want_out (G : GOk gs) {b : Nat} (hb : b < gs.length) (h : b ∉ inr gs) : gn gs b ∉ inr gs := fun k => by
  obtain ⟨p, hp, hx⟩ := mem_inr.mp k
  obtain ⟨R, O⟩ := clos_of G hp
  obtain ⟨y, hy, e⟩ := R.prev hx
  have e1 := (G.at hb).1
  have e2 := (G.at (R.b.lt y hy)).1
  rw [e] at e2
  have := cnt_uniq (O _ hx) e1 e2
  exact h (mem_inr.mpr ⟨p, hp, this ▸ hy⟩)
theorem c0_want (G : GOk gs) {s : Nat} (S : Spare gs s) {b : Nat} (hb : b < gs.length) (h : b ∉ inr gs) : c0 gs s (gn gs b) = gn gs b := by
  by_cases k : clos gs = []
  · unfold c0 rows0
    rw [k]
    rfl
  · exact (c0_in G S).2 _ (want_out G hb h) ((S k).2 b hb)
structure Sp (gs : List Int) (s : Nat) (W : List Nat) (h : Nat → Nat) (T : List (Nat × Nat)) : Prop where
  nd : W.Nodup
  sub : ∀ b ∈ W, b ∈ rst gs
  don : ∀ b ∈ rst gs, b ∉ W → run (c0 gs s) T b = gn gs b
  oth : ∀ b, b < gs.length → b ∉ rst gs → run (c0 gs s) T b = gn gs b
  hol : ∀ b ∈ W, run (c0 gs s) T (h (gn gs b)) = gn gs b
  hom : ∀ v, v < gs.length → h v = v ∨ (h v ∈ rst gs ∧ h v ∉ W)
  prc : ∀ b ∈ rst gs, b ∉ W → h (gn gs b) ∈ rst gs ∧ h (gn gs b) ∉ W
  len : T.length + W.length = (rst gs).length
  val : ∀ q ∈ T, VP gs.length q
theorem sp_start (G : GOk gs) {s : Nat} (S : Spare gs s) : Sp gs s (rst gs) id [] where
  nd := nd_rst
  sub := fun _ h => h
  don := fun b h k => absurd h k
  oth := fun b hb k => by
    show c0 gs s b = gn gs b
    by_cases i : b ∈ inr gs
    · exact (c0_in G S).1 b i
    · have e : gn gs b = b := by
        by_cases z : gn gs b = b
        · exact z
        · exact absurd (mem_rst.mpr ⟨hb, z, i⟩) k
      have := c0_want G S hb i
      rw [e] at this
      rw [this, e]
  hol := fun b hb => c0_want G S (mem_rst.mp hb).1 (mem_rst.mp hb).2.2
  hom := fun v _ => .inl rfl
  prc := fun b h k => absurd h k
  len := by rw [List.length_nil, Nat.zero_add]
  val := fun q hq => by cases hq
def pick (gs : List Int) (W : List Nat) (h : Nat → Nat) (t : Nat) : Prop := (∀ b ∈ W, gn gs b ≠ t) ∨ h t ≠ t
theorem sp_pick (G : GOk gs) {s : Nat} {W : List Nat} {h : Nat → Nat} {T : List (Nat × Nat)} (P : Sp gs s W h T) (ne : W ≠ []) : ∃ t ∈ W, pick gs W h t := by
  apply Classical.byContradiction
  intro none
  have all : ∀ t ∈ W, (∃ b ∈ W, gn gs b = t) ∧ h t = t := fun t ht => by
    constructor
    · apply Classical.byContradiction
      intro k
      exact none ⟨t, ht, .inl fun b hb e => k ⟨b, hb, e⟩⟩
    · apply Classical.byContradiction
      intro k
      exact none ⟨t, ht, .inr k⟩
  have wl : ∀ b ∈ W, b < gs.length := fun b hb => (mem_rst.mp (P.sub b hb)).1
  -- the wanted numbers are the blocks themselves
  have pm := perm_of W (W.map (gn gs)) P.nd (fun x hx => by
    obtain ⟨b, hb, e⟩ := (all x hx).1
    exact List.mem_map.mpr ⟨b, hb, e⟩) (by rw [List.length_map]; exact Nat.le_refl _)
  have into : ∀ b ∈ W, gn gs b ∈ W := fun b hb => pm.mem_iff.mp (List.mem_map.mpr ⟨b, hb, rfl⟩)
  have ndm : (W.map (gn gs)).Nodup := pm.nodup_iff.mpr P.nd
  have inj : ∀ b ∈ W, ∀ d ∈ W, gn gs b = gn gs d → b = d := fun b hb d hd e => by
    obtain ⟨i, hi⟩ := List.getElem?_of_mem hb
    obtain ⟨j, hj⟩ := List.getElem?_of_mem hd
    have := nd_inj ndm (i := i) (j := j) (x := gn gs b) (by rw [List.getElem?_map, hi]; rfl) (by rw [List.getElem?_map, hj, e]; rfl)
    rw [this, hj] at hi
    exact (Option.some.inj hi).symm
  -- nobody else wants them
  have only : ∀ t ∈ W, ∀ b, b < gs.length → gn gs b = t → b ∈ W := fun t ht b hb e => by
    apply Classical.byContradiction
    intro k
    by_cases r : b ∈ rst gs
    · have := (P.prc b r k).2
      rw [e, (all t ht).2] at this
      exact this ht
    · by_cases i : b ∈ inr gs
      · obtain ⟨p, hp, hx⟩ := mem_inr.mp i
        exact (mem_rst.mp (P.sub t ht)).2.2 (mem_inr.mpr ⟨p, hp, e ▸ (clos_of G hp).1.next hx⟩)
      · have z : gn gs b = b := by
          by_cases z : gn gs b = b
          · exact z
          · exact absurd (mem_rst.mpr ⟨hb, z, i⟩) r
        exact k (by rw [← z, e]; exact ht)
  have once : ∀ t ∈ W, gs.count (t : Int) = 1 := fun t ht => by
    obtain ⟨b, hb, e⟩ := (all t ht).1
    have at_ : ∀ i, gs[i]? = some (t : Int) → i < gs.length ∧ gn gs i = t := fun i hi => by
      have li := (List.getElem?_eq_some_iff.mp hi).1
      have := (G.at li).1
      rw [hi] at this
      exact ⟨li, by have := Option.some.inj this; omega⟩
    refine cnt_one gs (List.mem_of_getElem? (by rw [← e]; exact (G.at (wl b hb)).1)) fun i j hi hj => ?_
    obtain ⟨l1, e1⟩ := at_ i hi
    obtain ⟨l2, e2⟩ := at_ j hj
    exact inj _ (only t ht i l1 e1) _ (only t ht j l2 e2) (e1.trans e2.symm)
  -- the least of them begins a closed ring
  obtain ⟨m, hm, le⟩ : ∃ m ∈ W, ∀ x ∈ W, m ≤ x := by
    have : ∀ (l : List Nat), l ≠ [] → ∃ m ∈ l, ∀ x ∈ l, m ≤ x := by
      intro l
      induction l with
      | nil => exact fun h => absurd rfl h
      | cons a r ih =>
        intro _
        by_cases k : r = []
        · exact ⟨a, List.mem_cons_self .., fun x hx => by rw [k] at hx; rw [List.mem_singleton.mp hx]; exact Nat.le_refl _⟩
        · obtain ⟨m, hm, h⟩ := ih k
          by_cases z : a ≤ m
          · exact ⟨a, List.mem_cons_self .., fun x hx => by
              rcases List.mem_cons.mp hx with e | e
              · rw [e]; exact Nat.le_refl _
              · exact Nat.le_trans z (h x e)⟩
          · exact ⟨m, List.mem_cons_of_mem _ hm, fun x hx => by
              rcases List.mem_cons.mp hx with e | e
              · rw [e]; omega
              · exact h x e⟩
    exact this W ne
  obtain ⟨Pm, em⟩ := F_end (G.lt) (wl m hm)
  have fin : ∀ i x : Nat, (F (gn gs) gs.length m)[i]? = some x → x ∈ W := by
    intro i
    induction i with
    | zero =>
      intro x hx
      rw [Pm.hd] at hx
      cases hx
      exact hm
    | succ i ih =>
      intro x hx
      have li := (List.getElem?_eq_some_iff.mp hx).1
      have e2 : (F (gn gs) gs.length m)[i]? = some (F (gn gs) gs.length m)[i] := List.getElem?_eq_getElem (by omega)
      rw [Pm.st i _ x e2 hx]
      exact into _ (ih _ e2)
  have sub : ∀ x ∈ F (gn gs) gs.length m, x ∈ W := fun x hx => by
    obtain ⟨i, hi⟩ := List.getElem?_of_mem hx
    exact fin i x hi
  have lw : (F (gn gs) gs.length m).getLastD 0 ∈ W := sub _ (last_mem Pm.ne)
  have back : gn gs ((F (gn gs) gs.length m).getLastD 0) = m := by
    obtain ⟨i, hi⟩ := List.getElem?_of_mem em
    have li := (List.getElem?_eq_some_iff.mp hi).1
    cases i with
    | zero =>
      rw [Pm.hd] at hi
      exact (Option.some.inj hi).symm
    | succ i =>
      have e2 : (F (gn gs) gs.length m)[i]? = some (F (gn gs) gs.length m)[i] := List.getElem?_eq_getElem (by omega)
      have e3 := Pm.st i _ _ e2 hi
      have e4 := inj _ lw _ (fin i _ e2) e3
      have := nd_inj Pm.nd (last_at Pm.ne) (by rw [e4]; exact e2)
      omega
  have isr : IsR (gn gs) (F (gn gs) gs.length m) := by
    refine ⟨?_, by rw [back, Pm.headD], fun x hx => by rw [Pm.headD]; exact le x (sub x hx)⟩
    have l1 : 0 < (F (gn gs) gs.length m).length := List.length_pos_iff.mpr Pm.ne
    by_cases k : (F (gn gs) gs.length m).length = 1
    · have e := last_at Pm.ne
      rw [k, Nat.sub_self, Pm.hd] at e
      rw [← Option.some.inj e] at back
      exact absurd back (mem_rst.mp (P.sub m hm)).2.1
    · omega
  have cm := clos_mem G (wl m hm) isr fun b hb => once b (sub b hb)
  exact (mem_rst.mp (P.sub m hm)).2.2 (mem_inr.mpr ⟨_, cm, List.mem_of_getElem? Pm.hd⟩)
def hup (h : Nat → Nat) (v t : Nat) : Nat → Nat := fun u => if u = v then t else h u
theorem sp_step (G : GOk gs) {s : Nat} {W : List Nat} {h : Nat → Nat} {T : List (Nat × Nat)} (P : Sp gs s W h T) {t : Nat} (ht : t ∈ W) (pk : pick gs W h t) : Sp gs s (W.erase t) (hup h (gn gs t) t) (T ++ [(t, h (gn gs t))]) := by
  have tr := mem_rst.mp (P.sub t ht)
  have me : ∀ b, b ∈ W.erase t ↔ b ≠ t ∧ b ∈ W := fun b => P.nd.mem_erase_iff
  have rn : ∀ b, run (c0 gs s) (T ++ [(t, h (gn gs t))]) b = if b = t then run (c0 gs s) T (h (gn gs t)) else run (c0 gs s) T b := fun b => by
    rw [run_app]
    rfl
  have src := P.hol t ht
  refine ⟨P.nd.erase t, fun b hb => P.sub b ((me b).mp hb).2, fun b hb k => ?_, fun b hb k => ?_, fun b hb => ?_, fun v hv => ?_, fun b hb k => ?_, ?_, fun q hq => ?_⟩
  · rw [rn]
    by_cases e : b = t
    · rw [if_pos e, src, e]
    · rw [if_neg e]
      exact P.don b hb fun z => k ((me b).mpr ⟨e, z⟩)
  · rw [rn, if_neg (fun e => k (by rw [e]; exact P.sub t ht))]
    exact P.oth b hb k
  · obtain ⟨bt, bw⟩ := (me b).mp hb
    rw [rn]
    unfold hup
    by_cases e : gn gs b = gn gs t
    · rw [if_pos e, if_pos rfl, src, e]
    · rw [if_neg e]
      have nt : h (gn gs b) ≠ t := fun z => by
        have lb := (mem_rst.mp (P.sub b bw)).1
        rcases P.hom (gn gs b) (G.lt b lb) with w | w
        · rw [w] at z
          rcases pk with p1 | p1
          · exact p1 b bw z
          · exact p1 (by rw [← z]; exact w)
        · exact w.2 (by rw [z]; exact ht)
      rw [if_neg nt]
      exact P.hol b bw
  · unfold hup
    by_cases e : v = gn gs t
    · rw [if_pos e]
      exact .inr ⟨P.sub t ht, fun z => ((me t).mp z).1 rfl⟩
    · rw [if_neg e]
      rcases P.hom v hv with w | w
      · exact .inl w
      · exact .inr ⟨w.1, fun z => w.2 ((me _).mp z).2⟩
  · unfold hup
    by_cases e : gn gs b = gn gs t
    · rw [if_pos e]
      exact ⟨P.sub t ht, fun z => ((me t).mp z).1 rfl⟩
    · rw [if_neg e]
      have w := P.prc b hb fun z => k ((me b).mpr ⟨fun y => e (by rw [y]), z⟩)
      exact ⟨w.1, fun z => w.2 ((me _).mp z).2⟩
  · have := List.length_erase_of_mem ht
    have := P.len
    have : 0 < W.length := List.length_pos_of_mem ht
    rw [List.length_append, List.length_singleton]
    omega
  · rcases List.mem_append.mp hq with k | k
    · exact P.val q k
    · rw [List.mem_singleton.mp k]
      refine ⟨tr.1, ?_, fun z => ?_⟩
      · show h (gn gs t) < gs.length
        rcases P.hom _ (G.lt t tr.1) with w | w
        · rw [w]; exact G.lt t tr.1
        · exact (mem_rst.mp w.1).1
      · have z : t = h (gn gs t) := z
        rcases P.hom _ (G.lt t tr.1) with w | w
        · rw [w] at z
          exact tr.2.1 z.symm
        · exact w.2 (by rw [← z]; exact ht)
theorem sp_end {s : Nat} {h : Nat → Nat} {T : List (Nat × Nat)} (P : Sp gs s [] h T) {b : Nat} (hb : b < gs.length) : run id (rows0 gs s ++ T) b = gn gs b := by
  rw [run_app]
  by_cases k : b ∈ rst gs
  · exact P.don b k List.not_mem_nil
  · exact P.oth b hb k
end RL
/-! own error classes without fields; readings of the steps of Nw and Nx -/
namespace Rv
open PySem PySem.Spec PyProof.Rows L2
abbrev vBase : List Value := [.type "ValueError", .type "Exception", .type "BaseException", .type "object"]
/-- an error class without a maker of its own -/
structure Err0 (K : PySem.W.Frag) (mg : Str → Option Value) (C : Addr) (x : Str) : Prop where
  gC : mg x = some (.ref C)
  q : PySem.W.excIn K C vBase "ValueError.__new__" = true
  kC : PySem.W.keepIn K (.ref C) = true
  bC : PySem.W.subIn K (.ref C) (.type "BaseException") = some true
  tC : PySem.W.typeIn K (.ref C) = some (.type "type")
  ec : ExcC K C
  icl : PySem.W.isClsIn K C = true
section
variable {X : Cx} {C : Addr} {bmB : List Value} {B newId initId : String}
theorem pmk_own0 {x : Str} {p pos : Pos} (F : ExcBaseFacts B newId initId bmB) (q : PySem.W.excIn X.K C bmB newId = true) (gC : X.mg x = some (.ref C)) (kC : PySem.W.keepIn X.K (.ref C) = true) (r : Raises X (.ref C)) (hg : Gl X x)
    (hdb : (x == ("__debug__" : Str)) = false := by decide) : PMk X (.Call (.Name x p) [] [] pos) (fun _ H Q => Q (.ref C) none H) := by
  intro pins s σ H Q I h
  refine wpAny_Call_Name_kw (ld_glob I hg gC (PySem.W.callWith_K0 I.kIn kC ?_) hdb)
  show wpAny _ _ (call (.ref C) []) _ _ _
  obtain ⟨bm, N, nm, qn, bs, hdct, sn, sub, ab, col, dd, k0, k1, k2, k3, k5, mN, hC, hN, hni, T⟩ := exc_obj I.kIn q
  refine wpAny_call_exc_subT F T hC hN hni (fun h' e hm => ?_) (by show 0 ≤ sizeLine; exact Nat.zero_le _)
  exact mk_of I hm r h (I.hok.gone hm.new)
/-- isinstance of the exception that the suite holds, of an own class, without a dict -/
def rIsX0 (K : PySem.W.Frag) (D a : Addr) (cls : Value) (d : Option Addr) : List V → Hp → VK → Prop := fun xs H Q => ∃ (c : V) (cv : Value) (b : Bool), xs = [.ref a, c] ∧ (∀ u, RelV c u → u = cv) ∧ PySem.W.kitOne K (.ref D) cv = some b ∧ cls = .ref D ∧ d = none ∧ Q (.bl b) H
theorem call_isX0 {X : Cx} {a D : Addr} {oe : Obj} {cls : Value} {d : Option Addr} {pn : List (Addr × Obj)} (C : ExcC X.K D) (hz : Zc cls d oe) (hf : ∃ vs, oe.data = .fields vs) :
    CallR (X.suite a ((a, oe) :: pn)) (.builtin "isinstance") (rIsX0 X.K D a cls d) := by
  intro pins s σ H xs us Q I r h
  obtain ⟨c, cv, b, rfl, hcv, e, rfl, rfl, q⟩ := h
  exact call_isE C hz hf pins s σ H _ us Q I r ⟨c, cv, b, rfl, hcv, e, q⟩
end
section
variable {X : Cx} {K : PySem.W.Frag} {o e : Expr} {to te : TE} {apos cpos : Pos}
/-- a tuple of whole numbers whose object has no dict -/
def GT (H : Hp) (a : Addr) (gs : List Int) : Prop := ∃ o : Obj, H a = some (.frz o (.tup (gs.map V.int))) ∧ o.dict = none
theorem GT.sq {H : Hp} {a : Addr} {gs : List Int} (g : GT H a gs) : SqT K H a (gs.map V.int) := by
  obtain ⟨o, h, _⟩ := g
  exact .inl (.inr ⟨o, h⟩)
theorem GT.same {H H' : Hp} {a : Addr} {gs : List Int} (g : GT H a gs) (S : Same H H') : GT H' a gs := by
  obtain ⟨o, h, d⟩ := g
  exact ⟨o, S _ _ h, d⟩
theorem GT.mut {H : Hp} {a b : Addr} {gs : List Int} {xs : List V} {u : HO} (g : GT H a gs) (h : H b = some (.lst xs)) : GT (upd H b u) a gs := by
  obtain ⟨o, e, d⟩ := g
  refine ⟨o, ?_, d⟩
  rw [upd_ne (ne_of e h (by intro z; cases z))]
  exact e
def tTc (to te : TE) : TE := fun σ H Q => to σ H fun x H1 => ∃ p ns, x = .ref p ∧ GT H1 p ns ∧ te σ H1 fun y H2 => ∃ k, [y] = [V.int k] ∧ GT H2 p ns ∧ Q (.int (ns.count k : Nat)) H2
theorem pe_tcnt (hu : X.A.units + 64 < cLine) (ho : PE X o to) (he : PE X e te)
    (h1 : attributeBase o "count" X.env (eval o X.env) = eval o X.env := by rfl)
    (h2 : ((backTo cpos (starEach [e] X.env)).all (fun x => !x.1) && (backToKw cpos (keywordEach [] X.env)).all (fun x => x.1.isSome)
      && decide ([e].length + ([] : List Keyword).length + (if ([] : List Keyword).isEmpty then 0 else 1) < 30)) = true := by rfl)
    (h3 : (apos.endLine == cpos.line) = true := by rfl) (h4 : starEach [e] X.env = (false, eval e X.env) :: starEach [] X.env := by rfl) (h5 : (backTo cpos (starEach [] X.env)).any (·.1) = false := by rfl) :
    PE X (.Call (.Attribute o "count" apos) [e] [] cpos) (tTc to te) := by
  refine ⟨fun pins s σ H Q I h => ?_⟩
  refine wpAny_Call_method_late h1 h2 h3 rfl (thn (ho.run pins s σ H _ I h) fun v s1 ⟨x, H1, I1, r1, p, ns, ex, gp, q1⟩ => ?_)
  subst ex
  cases r1
  obtain ⟨ob, hb, hd⟩ := id gp
  obtain ⟨ho1, _, its, rv, o2, ho2, hc2, n2, hd2⟩ := (show ObjOk X.prog X.w H1 s1.heap p (.frz ob (.tup (ns.map V.int))) from I1.hok p _ hb)
  rw [ho1] at ho2
  cases ho2
  refine ⟨"tuple", _, PySem.F.plainAttrs_tuple, PySem.F.slot_tuple_count, PySem.F.type_tuple_count, ⟨_, ho1, hc2⟩, fun a ea => by cases ea; exact ⟨_, ho1, hd⟩, ?_⟩
  have ha : PA X [e] (tCons te tNil) := pa_cons he pa_nil (hs := h4)
  have hA := ha.run cpos pins s1 σ H1 (fun vs H2 => ∃ k, vs = [.int k] ∧ GT H2 p ns ∧ Q (.int (ns.count k : Nat)) H2) I1 q1
  rw [h4] at hA ⊢
  refine Calls.callWith_builtin (by show (false || (backTo cpos (starEach [] X.env)).any (·.1)) = false; rw [h5] <;> rfl) (Calls.evalArgs_plain ?_)
  exact thn hA fun us s2 ⟨vs, H2, I2, r2, k, ev, g2, q2⟩ => mt_tcount hu pins s2 σ H2 (.ref p) vs (.ref p) us Q I2 rfl r2 ⟨p, ns, k, rfl, ev, g2.sq, q2⟩
theorem pe_lcnt (hK : X.K = K) (ho : PE X o to) (he : PE X e te)
    (h1 : attributeBase o "count" X.env (eval o X.env) = eval o X.env := by rfl)
    (h2 : ((backTo cpos (starEach [e] X.env)).all (fun x => !x.1) && (backToKw cpos (keywordEach [] X.env)).all (fun x => x.1.isSome)
      && decide ([e].length + ([] : List Keyword).length + (if ([] : List Keyword).isEmpty then 0 else 1) < 30)) = true := by rfl)
    (h3 : (apos.endLine == cpos.line) = true := by rfl) (h4 : starEach [e] X.env = (false, eval e X.env) :: starEach [] X.env := by rfl) (h5 : (backTo cpos (starEach [] X.env)).any (·.1) = false := by rfl) :
    PE X (.Call (.Attribute o "count" apos) [e] [] cpos) (tBM K "list" (rCntI K) to (tCons te tNil)) := by
  subst hK
  exact pe_bm PySem.F.plainAttrs_list PySem.F.slot_list_count PySem.F.type_list_count mt_lcount ho (pa_cons he pa_nil (hs := h4)) h1 h2 h3 h4 h5
end
/-- tuple(list): the object is known -/
def rTupF (K : PySem.W.Frag) : List V → Hp → VK → Prop := fun xs H Q => ∃ (p : Addr) (ns : List Int), xs = [.ref p] ∧ SqL K H p (ns.map V.int) ∧ ∀ l (o : Obj), H l = none → o.dict = none → Q (.ref l) (upd H l (.frz o (.tup (ns.map V.int))))
theorem call_tupF {X : Cx} : CallR X (.type "tuple") (rTupF X.K) := by
  intro pins s σ H xs us Q I r h
  obtain ⟨p, ns, rfl, hq, q⟩ := h
  rw [Vals.ref1 r]
  obtain ⟨its, r', pl, hz⟩ := I.list hq
  have hlen := r'.length
  refine call_tuple_list pl.isList (fun h' kp => ?_) (by simp only [List.size_toArray] <;> omega)
  have I1 : Inv X pins σ H { s with heap := h' } := I.kept (t' := s.toks) kp
  have I2 := I1.laid (t' := s.toks) (h' := h'.push { cls := .type "tuple", data := .seq its.toArray }) (a := h'.objs.size) (o := .frz { cls := .type "tuple", data := .seq its.toArray } (.tup (ns.map V.int))) (fun b o e => Heap.get?_push_of_some _ e) (Nat.le_refl _)
    (show ObjOk X.prog X.w _ _ _ (.frz { cls := .type "tuple", data := .seq its.toArray } (.tup (ns.map V.int))) from ⟨Heap.get?_push_size _ rfl, hz, its, r', IsTup.new _ _⟩)
  exact ⟨.ref h'.objs.size, _, I2, rfl, q _ _ (I1.hok.fresh (Nat.le_refl _)) rfl⟩
def rIsG : List V → Hp → VK → Prop := fun vs H Q => ∃ (a : Addr) (gs : List Int), vs = [.ref a, .ty "tuple"] ∧ GT H a gs ∧ Q (.bl true) H
theorem call_isG {X : Cx} : CallR X (.builtin "isinstance") rIsG := by
  intro pins s σ H xs us Q I r h
  obtain ⟨a, gs, rfl, ⟨o, ha, hd⟩, q⟩ := h
  cases r with
  | cons rx rr =>
    cases rr with
    | cons rt rr =>
      cases rr
      cases rx
      cases rt
      obtain ⟨h1, _, its, rv, o2, h2, h3, n2, h4⟩ := (show ObjOk X.prog X.w H s.heap a (.frz o (.tup (gs.map V.int))) from I.hok a _ ha)
      exact PySem.W.kia_one PySem.W.kitx_tuple I.kIn ⟨o2, h2, h3⟩ (kit_ty (K := X.K) (show kitB "tuple" "tuple" = some true by decide +kernel)) (fun z => nomatch z) fun tk => ⟨.bl true, H, I.kept (t' := tk) fun _ _ z => z, rfl, q⟩
theorem feed_tupG {P : Program} {w : World} {K : PySem.W.Frag} (it a : Addr) (o : Obj) (xs : List V) :
    Feed P w K it xs.length (fun H => H a = some (.frz o (.tup xs))) (fun i => xs[i]?) (fun i h => h.IsTupleIter it a i) where
  cell := fun i h q => by
    obtain ⟨ob, e1, e2, e3⟩ := q
    refine ⟨ob, e1, fun v z => ?_⟩
    rw [e3] at z
    cases z
  stay := fun i h1 h2 q k => by
    obtain ⟨ob, e1, e2⟩ := q
    exact ⟨ob, k ob e1, e2⟩
  feed := fun X hP hw hK hc pins σ H s I hg hn => by
    obtain ⟨its, rv, hT, _⟩ := I.tuple (show SqT X.K H a xs from .inl (.inr ⟨o, hg⟩))
    have hl : its.toArray.size = xs.length := by
      rw [List.size_toArray]
      exact rv.length.symm
    have nai : a ≠ it := ne_of_none hg hn
    have D := Draws.tuple (prog := X.prog) (w := X.w) (A := X.A.in1) (show X.A.in1.handled = none from I.ok.hd hc) it a nai its.toArray
    rw [hl] at D
    refine ⟨[it, a], _, _, D, fun _ _ q => q.1, fun _ q => ⟨q, hT⟩, fun i u q => ?_, fun b hb hbn hm => ?_⟩
    · have q2 : its[i]? = some u := by simpa using q
      have hi : i < xs.length := by
        have := (List.getElem?_eq_some_iff.mp q2).1
        rw [rv.length]
        exact this
      obtain ⟨u', e1, r1⟩ := rv.get (List.getElem?_eq_getElem hi)
      rw [q2] at e1
      cases e1
      exact ⟨xs[i], r1, List.getElem?_eq_getElem hi⟩
    · rcases List.mem_cons.mp hm with z | z
      · exact hb z
      · have z2 : b = a := by simpa using z
        rw [z2, hg] at hbn
        cases hbn
def EnG (R : It → Hp → Prop) (vs : List V) (H1 : Hp) : Prop := ∃ (a : Addr) (gs : List Int) (o : Obj), vs = [.ref a] ∧ H1 a = some (.frz o (.tup (gs.map V.int))) ∧ R (Jen (gs.map V.int).length (fun H => H a = some (.frz o (.tup (gs.map V.int)))) (fun i => (gs.map V.int)[i]?)) H1
def iEnG (ta : TA) : TI := fun σ H R => ta σ H fun vs H1 => EnG R vs H1
theorem pi_enG {X : Cx} {e : Expr} {ta : TA} {p pos tpos : Pos} {elts : List Expr} {kk : Nat} (hg : Gl X "enumerate") (hm : X.mg "enumerate" = none) (ha : PA X [e] ta) (hs : starEach [e] X.env = [(false, eval e X.env)] := by rfl) :
    PI X (.Tuple elts kk tpos) (.Call (.Name "enumerate" p) [e] [] pos) (iEnG ta) := by
  refine ⟨fun pins s σ H R I h => Call_ (ld_blt I hg hm boot_enumerate (PyProof.Rows.callWith_type1 (thn (ha.run pos pins s σ H _ I h) fun us s1 q0 => ?_) hs rfl))⟩
  obtain ⟨vs, H1, I1, r1, a, gs, o, rfl, hT, q⟩ := q0
  cases r1 with
  | cons r rr =>
    cases rr
    cases r
    obtain ⟨its, rv, hI, _⟩ := I1.tuple (show SqT X.K H1 a (gs.map V.int) from .inl (.inr ⟨o, hT⟩))
    refine enum1 (begins_tuple a its.toArray) hI fun h' he ho hk => wpAny_pyIter_enum he ?_
    have I2 : Inv X pins σ H1 { s1 with heap := h' } := I1.kept (t' := s1.toks) hk
    refine ⟨s1.heap.objs.size + 1, [s1.heap.objs.size + 1, s1.heap.objs.size], _, _, H1, rfl, I2, turn_jen (feed_tupG s1.heap.objs.size a o (gs.map V.int)) (Nat.succ_ne_self _), ⟨⟨.none, he⟩, ⟨_, ho, rfl, rfl⟩⟩, fun b hb => ?_, q⟩
    have le : s1.heap.objs.size ≤ b := by
      rcases List.mem_cons.mp hb with z | z
      · rw [z]; exact Nat.le_succ _
      · rw [show b = s1.heap.objs.size by simpa using z]; exact Nat.le_refl _
    exact I1.fpOk le (I1.hok.fresh le)
section
variable {K : PySem.W.Frag} {σ : L2.St} {H : Hp} {Q : VK} {p : Addr} {gs : List Int} {R : It → Hp → Prop}
theorem rd_ixG {v : V} {i : Int} (g : GT H p gs) (e : atI (gs.map V.int) i = some v) (q : Q v H) : rIxT K (.ref p) (.int i) H Q := ⟨p, _, i, v, rfl, rfl, g.sq, e, q⟩
theorem rd_lenG (g : GT H p gs) (q : Q (.int (gs.length : Nat)) H) : rLenQ K [.ref p] H Q := ⟨p, _, rfl, .inr g.sq, by rw [List.length_map]; exact q⟩
theorem rd_isG (g : GT H p gs) (q : Q (.bl true) H) : rIsG [.ref p, .ty "tuple"] H Q := ⟨p, gs, rfl, g, q⟩
theorem rd_ninG {x : V} (g : GT H p gs) (fx : flatV x = true) (fs : (gs.map V.int).all flatV = true) (q : Q (.bl (!inV x (gs.map V.int))) H) : rIn K true x (.ref p) H Q := ⟨p, _, rfl, .inr g.sq, fx, fs, q⟩
theorem rd_iEnG {ta : TA} (q : ta σ H fun vs H1 => EnG R vs H1) : iEnG ta σ H R := q
theorem rd_tupF (h : H p = some (.lst (gs.map V.int))) (q : ∀ H2 l, Same H H2 → H l = none → GT H2 l gs → Q (.ref l) H2) : rTupF K [.ref p] H Q :=
  ⟨p, gs, rfl, .of h, fun l o nl d => q _ l (same_new (Same.refl _) nl) nl ⟨o, upd_same, d⟩⟩
theorem rd_tc {i j : Nat} {k : Int} (hv : σ[i]? = some (some (.ref p))) (hw : σ[j]? = some (some (.int k))) (g : GT H p gs) (q : Q (.int (gs.count k : Nat)) H) : tTc (tVar i) (tVar j) σ H Q :=
  ⟨_, hv, p, gs, rfl, g, _, hw, k, rfl, g, q⟩
end
section
variable {K : PySem.W.Frag} {σ : L2.St} {H : Hp} {Q : VK}
theorem rd_cntL {p : Addr} {ns : List Int} {k : Int} (h : H p = some (.lst (ns.map V.int))) (q : Q (.int (ns.count k : Nat)) H) : rCntI K (.ref p) [.int k] H Q := ⟨p, ns, k, rfl, rfl, .of h, q⟩
theorem rd_minT {a : Addr} {ns : List Int} (h : H a = some (.tup (ns.map V.int))) (l : 0 < ns.length) (q : ∀ m, m ∈ ns → (∀ y, y ∈ ns → m ≤ y) → Q (.int m) H) : rMinT [.ref a] H Q := ⟨a, ns, rfl, h, l, q⟩
theorem rd_minL {a : Addr} {ns : List Int} (h : H a = some (.lst (ns.map V.int))) (l : 0 < ns.length) (q : ∀ m, m ∈ ns → (∀ y, y ∈ ns → m ≤ y) → Q (.int m) H) : rMin K [.ref a] H Q := ⟨a, ns, rfl, .of h, l, q⟩
end
open RL
def unw (gs : List Int) (i : Nat) : List Nat := (List.range i).filter fun b => decide (¬ ∃ j, j < gs.length ∧ gn gs j = b)
def niz (l : List Nat) : List Int := l.map fun b : Nat => (b : Int)
def nvs (l : List Nat) : List V := (niz l).map V.int
theorem niz_len (l : List Nat) : (niz l).length = l.length := List.length_map ..
def qv (q : Nat × Nat) : List V := [V.int (q.1 : Int), V.int (q.2 : Int)]
def lv (q : Nat × Nat) : List V := [.str sCopy, .int (q.1 : Int), .int (q.2 : Int), .str (txt [])]
theorem nvs_len (l : List Nat) : (nvs l).length = l.length := by unfold nvs; rw [List.length_map, niz_len]
theorem mem_niz {b : Nat} {l : List Nat} : (b : Int) ∈ niz l ↔ b ∈ l := by
  unfold niz
  rw [List.mem_map]
  exact ⟨fun ⟨x, hx, e⟩ => (Int.ofNat.inj e) ▸ hx, fun h => ⟨b, h, rfl⟩⟩
theorem niz_of {k : Int} {l : List Nat} (h : k ∈ niz l) : ∃ b : Nat, k = (b : Int) ∧ b ∈ l := by
  obtain ⟨b, hb, e⟩ := List.mem_map.mp h
  exact ⟨b, e.symm, hb⟩
theorem nvs_app (a b : List Nat) : nvs (a ++ b) = nvs a ++ nvs b := by unfold nvs niz; rw [List.map_append, List.map_append]
theorem nvs_get {l : List Nat} {i b : Nat} (h : l[i]? = some b) : (nvs l)[i]? = some (V.int (b : Int)) := by unfold nvs niz; rw [List.getElem?_map, List.getElem?_map, h]; rfl
theorem nvs_atI {l : List Nat} {i b : Nat} (h : l[i]? = some b) : atI (nvs l) (i : Int) = some (V.int (b : Int)) := atI_nat (nvs_get h)
theorem nvs_last {l : List Nat} (h : l ≠ []) : atI (nvs l) (-1) = some (V.int ((l.getLastD 0 : Nat) : Int)) := by
  have hl : 0 < l.length := List.length_pos_iff.mpr h
  have e := nvs_get (last_at h)
  have hn := nvs_len l
  unfold atI ixN
  rw [hn, if_neg (by decide), if_pos (by omega)]
  show (nvs l)[((-1 : Int) + ((l.length : Nat) : Int)).toNat]? = _
  rw [show ((-1 : Int) + ((l.length : Nat) : Int)).toNat = l.length - 1 by omega]
  exact e
theorem nvs_in {b : Nat} {l : List Nat} : inV (V.int (b : Int)) (nvs l) = decide (b ∈ l) := by
  unfold nvs
  rw [inV_ints]
  by_cases h : b ∈ l
  · rw [decide_eq_true h, decide_eq_true (mem_niz.mpr h)]
  · rw [decide_eq_false h, decide_eq_false (fun z => h (mem_niz.mp z))]
theorem nvs_flat (l : List Nat) : (nvs l).all flatV = true := by
  unfold nvs
  rw [List.all_eq_true]
  intro x hx
  obtain ⟨k, _, rfl⟩ := List.mem_map.mp hx
  rfl
theorem ints_flat (l : List Int) : (l.map V.int).all flatV = true := by
  rw [List.all_eq_true]
  intro x hx
  obtain ⟨k, _, rfl⟩ := List.mem_map.mp hx
  rfl
theorem goal_at {gs : List Int} (G : GOk gs) {b : Nat} (h : b < gs.length) : atI (gs.map V.int) (b : Int) = some (V.int ((gn gs b : Nat) : Int)) :=
  atI_nat (by rw [List.getElem?_map, (G.at h).1]; rfl)
theorem goal_in {gs : List Int} (G : GOk gs) {b : Nat} : inV (V.int (b : Int)) (gs.map V.int) = decide (∃ i, i < gs.length ∧ gn gs i = b) := by
  rw [inV_ints]
  by_cases h : (b : Int) ∈ gs
  · rw [decide_eq_true h]
    obtain ⟨i, hi⟩ := List.getElem?_of_mem h
    have li := (List.getElem?_eq_some_iff.mp hi).1
    have := (G.at li).1
    rw [hi] at this
    rw [decide_eq_true ⟨i, li, by have := Option.some.inj this; omega⟩]
  · rw [decide_eq_false h, decide_eq_false fun ⟨i, li, e⟩ => h (by rw [← e]; exact List.mem_of_getElem? (G.at li).1)]
/-- rows of block numbers -/
abbrev NRows (H : Hp) (bs : List Addr) (ps : List (List Nat)) : Prop := TupsAt H bs (ps.map nvs)
theorem NRows.len {H : Hp} {bs : List Addr} {ps : List (List Nat)} (t : NRows H bs ps) : bs.length = ps.length := by rw [t.1, List.length_map]
theorem NRows.kt {H H' : Hp} {bs : List Addr} {ps : List (List Nat)} (t : NRows H bs ps) (k : Kt H H') : NRows H' bs ps := TupsAt.kt k t
theorem NRows.same {H H' : Hp} {bs : List Addr} {ps : List (List Nat)} (t : NRows H bs ps) (S : Same H H') : NRows H' bs ps := TupsAt.same S t
theorem NRows.snoc {H : Hp} {bs : List Addr} {ps : List (List Nat)} {a : Addr} {p : List Nat} (t : NRows H bs ps) (h : H a = some (.tup (nvs p))) : NRows H (bs ++ [a]) (ps ++ [p]) := by
  unfold NRows
  rw [List.map_append]
  exact TupsAt.app t h
theorem NRows.at {H : Hp} {bs : List Addr} {ps : List (List Nat)} (t : NRows H bs ps) {i : Nat} {p : List Nat} (h : ps[i]? = some p) : ∃ a, bs[i]? = some a ∧ H a = some (.tup (nvs p)) := t.2 i _ (by rw [List.getElem?_map, h]; rfl)
theorem mov_next {gs : List Int} (i : Nat) : mov gs (i + 1) = mov gs i ++ if gn gs i = i then [] else [i] := by
  unfold mov
  rw [List.range_succ, List.filter_append]
  congr 1
  by_cases h : gn gs i = i
  · rw [if_pos h, List.filter_cons_of_neg (by rw [decide_eq_false (fun z => z h)]; decide)]; rfl
  · rw [if_neg h, List.filter_cons_of_pos (by rw [decide_eq_true h])]; rfl
theorem mov_len_le {gs : List Int} (i : Nat) : (mov gs i).length ≤ i := by
  unfold mov
  have := List.length_filter_le (fun b => decide (gn gs b ≠ b)) (List.range i)
  rw [List.length_range] at this
  exact this
theorem unw_next {gs : List Int} (i : Nat) : unw gs (i + 1) = unw gs i ++ if ∃ j, j < gs.length ∧ gn gs j = i then [] else [i] := by
  unfold unw
  rw [List.range_succ, List.filter_append]
  congr 1
  by_cases h : ∃ j, j < gs.length ∧ gn gs j = i
  · rw [if_pos h, List.filter_cons_of_neg (by rw [decide_eq_false (fun z => z h)]; decide)]; rfl
  · rw [if_neg h, List.filter_cons_of_pos (by rw [decide_eq_true h])]; rfl
theorem unw_len_le {gs : List Int} (i : Nat) : (unw gs i).length ≤ i := by
  unfold unw
  have := List.length_filter_le (fun b => decide (¬ ∃ j, j < gs.length ∧ gn gs j = b)) (List.range i)
  rw [List.length_range] at this
  exact this
theorem mem_unw {gs : List Int} {i b : Nat} : b ∈ unw gs i ↔ b < i ∧ ∀ j, j < gs.length → gn gs j ≠ b := by
  unfold unw
  rw [List.mem_filter, List.mem_range, decide_eq_true_eq]
  exact ⟨fun ⟨h, k⟩ => ⟨h, fun j hj e => k ⟨j, hj, e⟩⟩, fun ⟨h, k⟩ => ⟨h, fun ⟨j, hj, e⟩ => k j hj e⟩⟩
def Lz (Q : VK) (vs : List V) (H1 : Hp) : Prop := ∃ a b xs ys, vs = [.ref a, .ref b] ∧ H1 a = some (.tup xs) ∧ H1 b = some (.tup ys) ∧ xs.length < 1000 ∧
  ∀ q H2 acc, H1 q = none → H2 q = some (.lst (acc.map V.ref)) → (∀ c u, H1 c = some u → H2 c = some u) → ZPairs H1 xs ys acc H2 → acc.length = min xs.length ys.length → Q (.ref q) H2
theorem rd_lz {K : PySem.W.Frag} {ta : TA} {σ : L2.St} {H : Hp} {Q : VK} (q : ta σ H fun vs H1 => Lz Q vs H1) : tLz K ta σ H Q := q
theorem zp_tups {H1 H2 : Hp} {r : List Nat} {s : Nat} {acc : List Addr} (z : ZPairs H1 (nvs (s :: r ++ [s])) (nvs (r ++ [s])) acc H2) (l : acc.length = min (nvs (s :: r ++ [s])).length (nvs (r ++ [s])).length) : TupsAt H2 acc ((tp s r s).map qv) := by
  rw [nvs_len, nvs_len, List.length_append, List.length_append, List.length_cons, List.length_singleton] at l
  refine ⟨by rw [l, List.length_map, tp_len]; omega, fun i vs e => ?_⟩
  rw [List.getElem?_map] at e
  cases e0 : (tp s r s)[i]? with
  | none => rw [e0] at e; cases e
  | some q =>
    rw [e0] at e
    cases e
    obtain ⟨x, y⟩ := q
    obtain ⟨h1, h2⟩ := RL.tp_at r s s i x y e0
    have li := (List.getElem?_eq_some_iff.mp e0).1
    rw [tp_len] at li
    have la : i < acc.length := by rw [l]; omega
    have ea : acc[i]? = some acc[i] := List.getElem?_eq_getElem la
    obtain ⟨x', y', e1, e2, e3, _⟩ := z i _ ea
    have h1' : (s :: r ++ [s])[i]? = some x := by
      rw [List.getElem?_append_left (by rw [List.length_cons]; omega)]
      exact h1
    rw [nvs_get h1'] at e1
    rw [nvs_get h2] at e2
    cases e1
    cases e2
    exact ⟨_, ea, e3⟩
theorem rd_ninT {K : PySem.W.Frag} {H : Hp} {Q : VK} {p : Addr} {xs : List V} {x : V} (h : H p = some (.tup xs)) (fx : flatV x = true) (fs : xs.all flatV = true) (q : Q (.bl (!inV x xs)) H) : rIn K true x (.ref p) H Q := ⟨p, xs, rfl, .inr (SqT.of h), fx, fs, q⟩
theorem rgs_next {gs : List Int} (i : Nat) : rgs gs (i + 1) = rgs gs i ++ if IsR (gn gs) (F (gn gs) gs.length i) then [F (gn gs) gs.length i] else [] := by
  unfold rgs
  rw [ways_next, List.filter_append]
  congr 1
  by_cases h : IsR (gn gs) (F (gn gs) gs.length i)
  · rw [if_pos h, List.filter_cons_of_pos (by rw [decide_eq_true h])]; rfl
  · rw [if_neg h, List.filter_cons_of_neg (by rw [decide_eq_false h]; decide)]; rfl
theorem clo_rgs {gs : List Int} (rs : List (List Nat)) (r : List Nat) : ((rs ++ [r]).filter fun p => decide (One gs p)) = (rs.filter fun p => decide (One gs p)) ++ if One gs r then [r] else [] := by
  rw [List.filter_append]
  congr 1
  by_cases h : One gs r
  · rw [if_pos h, List.filter_cons_of_pos (by rw [decide_eq_true h])]; rfl
  · rw [if_neg h, List.filter_cons_of_neg (by rw [decide_eq_false h]; decide)]; rfl
theorem nvs_emp (l : List Nat) : (nvs l).isEmpty = decide (l = []) := by
  cases l with
  | nil => rfl
  | cons x r => rfl
def hvs (h : Nat → Nat) (n : Nat) : List V := nvs ((List.range n).map h)
theorem hvs_len (h : Nat → Nat) (n : Nat) : (hvs h n).length = n := by unfold hvs; rw [nvs_len, List.length_map, List.length_range]
theorem hvs_get {h : Nat → Nat} {n i : Nat} (hi : i < n) : (hvs h n)[i]? = some (V.int (h i : Int)) := nvs_get (by rw [List.getElem?_map, List.getElem?_range hi]; rfl)
theorem hvs_atI {h : Nat → Nat} {n i : Nat} (hi : i < n) : atI (hvs h n) (i : Int) = some (V.int (h i : Int)) := atI_nat (hvs_get hi)
theorem hvs_set {h : Nat → Nat} {n i t : Nat} : (hvs h n).set i (V.int (t : Int)) = hvs (hup h i t) n := by
  apply List.ext_getElem?
  intro j
  by_cases k : j < n
  · rw [hvs_get k]
    by_cases e : i = j
    · subst e
      rw [List.getElem?_set_self (by rw [hvs_len]; exact k)]
      unfold hup
      rw [if_pos rfl]
    · rw [List.getElem?_set_ne e, hvs_get k]
      unfold hup
      rw [if_neg (fun z => e z.symm)]
  · rw [List.getElem?_eq_none (by rw [List.length_set, hvs_len]; omega), List.getElem?_eq_none (by rw [hvs_len]; omega)]
theorem hvs_id (n : Nat) : rgV 0 (n : Int) = hvs id n := by
  unfold rgV hvs nvs niz
  rw [List.map_map, List.map_map]
  rw [show ((n : Int) - 0).toNat = n by omega]
  refine List.map_congr_left fun i _ => ?_
  show V.int (0 + (i : Int)) = V.int (i : Int)
  rw [Int.zero_add]
theorem nvs_erase (t : Nat) : ∀ (W : List Nat) (j : Nat), W[j]? = some t → (∀ m : Nat, m < j → W[m]? ≠ some t) → ((niz W).eraseIdx j).map V.int = nvs (W.erase t)
  | [], j, h, _ => by simp at h
  | x :: r, 0, h, _ => by
    rw [List.getElem?_cons_zero] at h
    cases h
    rw [List.erase_cons_head]
    rfl
  | x :: r, j + 1, h, no => by
    rw [List.getElem?_cons_succ] at h
    have xt : x ≠ t := fun e => no 0 (Nat.succ_pos j) (by rw [e]; rfl)
    have ih := nvs_erase t r j h fun m hm e => no (m + 1) (Nat.succ_lt_succ hm) (by rw [List.getElem?_cons_succ]; exact e)
    rw [List.erase_cons_tail (by simpa using xt)]
    show V.int (x : Int) :: ((niz r).eraseIdx j).map V.int = V.int (x : Int) :: nvs (r.erase t)
    rw [ih]
theorem niz_get {W : List Nat} {j t : Nat} (h : W[j]? = some t) : (niz W)[j]? = some (t : Int) := by unfold niz; rw [List.getElem?_map, h]; rfl
theorem first_of {W : List Nat} {t : Nat} (h : t ∈ W) (nd : W.Nodup) : ∃ j : Nat, W[j]? = some t ∧ ∀ m : Nat, m < j → W[m]? ≠ some t := by
  obtain ⟨j, hj⟩ := List.getElem?_of_mem h
  exact ⟨j, hj, fun m hm e => by have := nd_inj nd e hj; omega⟩
def pk (gs : List Int) (W : List Nat) (h : Nat → Nat) (t : Nat) : Bool := !decide (t ∈ W.map (gn gs)) || !decide (h t = t)
theorem pk_iff {gs : List Int} {W : List Nat} {h : Nat → Nat} {t : Nat} : pk gs W h t = true ↔ pick gs W h t := by
  unfold pk pick
  rw [Bool.or_eq_true, Bool.not_eq_true', Bool.not_eq_true', decide_eq_false_iff_not, decide_eq_false_iff_not, List.mem_map]
  exact ⟨fun z => z.imp (fun k b hb e => k ⟨b, hb, e⟩) id, fun z => z.imp (fun k ⟨b, hb, e⟩ => k b hb e) id⟩
theorem tps_le {s : Nat} : ∀ ps : List (List Nat), (∀ p ∈ ps, p.length ≤ 12) → (ps.flatMap fun p => tp s p s).length ≤ 13 * ps.length
  | [], _ => Nat.zero_le _
  | p :: r, h => by
    have := tps_le (s := s) r fun q hq => h q (List.mem_cons_of_mem _ hq)
    have := h p (List.mem_cons_self ..)
    rw [List.flatMap_cons, List.length_append, tp_len, List.length_cons]
    omega
/-! a comprehension with two clauses over a list of tuples -/
def Lc2 (J : It) (g : TG) (tt : TT) (wi1 : TI) (g1 : TG) (tt1 : TT) (te : TE) (vs vs1 : List Nat) (σ : L2.St) (H1 : Hp) (Q : VK) : Prop := ∀ D, H1 D = none → ∃ W : Nat → Nat → Hp → Prop, (∃ m, W 0 m (upd H1 D (.lst []))) ∧ ∀ i m H, W i m H →
  (J.stop i H ∧ Q (.ref D) H) ∨ (J.go i H ∧ ∃ Nx : Hp → Prop, (∀ H', Nx H' → ∃ m', m' < m ∧ W (i + 1) m' H') ∧ ∀ x H', J.yld i H x H' → g x (wipe σ vs) H' fun σ2 H2 => wipe σ2 vs = wipe σ vs ∧ tt σ2 H2 fun b H3 =>
    if b = true then wi1 σ2 H3 fun J1 H4 => ∃ W1 : Nat → Nat → Hp → Prop, (∃ m, W1 0 m H4) ∧ ∀ j k H, W1 j k H →
      (J1.stop j H ∧ Nx H) ∨ (J1.go j H ∧ ∃ Nx1 : Hp → Prop, (∀ H', Nx1 H' → ∃ k', k' < k ∧ W1 (j + 1) k' H') ∧ ∀ x H', J1.yld j H x H' → g1 x (wipe σ2 vs1) H' fun σ3 H5 => wipe σ3 vs1 = wipe σ2 vs1 ∧ tt1 σ3 H5 fun b H6 =>
        if b = true then te σ3 H6 fun y H7 => ∃ acc, H7 D = some (.lst acc) ∧ acc.length < sizeLine ∧ Nx1 (upd H7 D (.lst (acc ++ [y]))) else Nx1 H6)
    else Nx H3)
theorem rd_lc2 {wi wi1 : TI} {g g1 : TG} {tt tt1 : TT} {te : TE} {vs vs1 : List Nat} {σ : L2.St} {H : Hp} {Q : VK} (q : wi σ H fun J H1 => Lc2 J g tt wi1 g1 tt1 te vs vs1 σ H1 Q) : tLc2 wi g tt wi1 g1 tt1 te vs vs1 σ H Q := q
theorem lc2_rows {K : PySem.W.Frag} {tl : Addr} {bs : List Addr} {rows : List (List V)} {g g1 : TG} {wi1 : TI} {te : TE} {vs vs1 : List Nat} {σ : L2.St} {H0 : Hp} {Q : VK} (s2 : Addr → L2.St) (s3 : Addr → V → L2.St)
    (hl : H0 tl = some (.lst (bs.map V.ref))) (t : TupsAt H0 bs rows) (sm : rows.flatten.length < 1000)
    (w2 : ∀ b, wipe (s2 b) vs = wipe σ vs) (w3 : ∀ b v, wipe (s3 b v) vs1 = wipe (s2 b) vs1)
    (hg : ∀ b H (R : L2.St → Hp → Prop), R (s2 b) H → g (.ref b) (wipe σ vs) H R) (hw : ∀ b H (R : It → Hp → Prop) xs, H b = some (.tup xs) → R (Itt K b) H → wi1 (s2 b) H R)
    (hg1 : ∀ b v H (R : L2.St → Hp → Prop), R (s3 b v) H → g1 v (wipe (s2 b) vs1) H R) (ht : ∀ b v H (R : VK), R v H → te (s3 b v) H R)
    (q : ∀ H2 D, Same H0 H2 → H0 D = none → H2 D = some (.lst rows.flatten) → Q (.ref D) H2) : Lc2 (Itl K tl) g tYes wi1 g1 tYes te vs vs1 σ H0 Q := by
  intro D nD
  have lb := t.1
  refine ⟨fun i m H => Same H0 H ∧ H D = some (.lst (rows.take i).flatten) ∧ m + i = rows.length, ⟨rows.length, same_new (Same.refl _) nD, upd_same, rfl⟩, ?_⟩
  rintro i m H ⟨S, hD, hm⟩
  by_cases hi : i < rows.length
  · refine .inr ⟨(walk_list (K := K) (a := tl) (xs := bs.map V.ref)).goes i H (by rw [List.length_map]; omega) (SqL.of (S _ _ hl)), fun H' => Same H0 H' ∧ H' D = some (.lst (rows.take (i + 1)).flatten), fun H' z => ⟨m - 1, by omega, z.1, z.2, by omega⟩, fun x H' y => ?_⟩
    obtain ⟨rfl, ex⟩ := (walk_list (K := K) (a := tl) (xs := bs.map V.ref)).yields i H x H' (by rw [List.length_map]; omega) (SqL.of (S _ _ hl)) y
    have er : rows[i]? = some rows[i] := List.getElem?_eq_getElem hi
    obtain ⟨b, e1, e2⟩ := (t.same S).2 i _ er
    rw [List.getElem?_map, e1] at ex
    cases ex
    have tk : (rows.take (i + 1)).flatten = (rows.take i).flatten ++ rows[i] := by rw [List.take_succ, er, List.flatten_append]; simp
    have le : (rows.take i).flatten.length + rows[i].length ≤ rows.flatten.length := by
      have z : rows = rows.take (i + 1) ++ rows.drop (i + 1) := (List.take_append_drop _ _).symm
      have z2 : rows.flatten.length = ((rows.take (i + 1)) ++ (rows.drop (i + 1))).flatten.length := by rw [← z]
      rw [List.flatten_append, List.length_append, tk, List.length_append] at z2
      omega
    refine hg b _ _ ⟨w2 b, ?_⟩
    unfold tYes
    dsimp only
    rw [if_pos rfl]
    refine hw b H' _ rows[i] e2 ?_
    refine ⟨fun j k G => Same H0 G ∧ G D = some (.lst ((rows.take i).flatten ++ rows[i].take j)) ∧ G b = some (.tup rows[i]) ∧ k + j = rows[i].length, ⟨rows[i].length, S, by rw [List.take_zero, List.append_nil]; exact hD, e2, rfl⟩, ?_⟩
    rintro j k G ⟨SG, hDG, hbG, hk⟩
    by_cases hj : j < rows[i].length
    · refine .inr ⟨(walk_tup (K := K) (a := b) (xs := rows[i])).goes j G hj (SqT.of hbG), fun H5 => Same H0 H5 ∧ H5 D = some (.lst ((rows.take i).flatten ++ rows[i].take (j + 1))) ∧ H5 b = some (.tup rows[i]), fun H5 z => ⟨k - 1, by omega, z.1, z.2.1, z.2.2, by omega⟩, fun x H5 y5 => ?_⟩
      obtain ⟨rfl, ex5⟩ := (walk_tup (K := K) (a := b) (xs := rows[i])).yields j G x H5 hj (SqT.of hbG) y5
      refine hg1 b x _ _ ⟨w3 b x, ?_⟩
      try unfold tYes
      try dsimp only
      rw [if_pos rfl]
      refine ht b x _ _ ⟨_, hDG, ?_, same_mut SG nD, ?_, ?_⟩
      · rw [List.length_append, List.length_take, sizeLine_eq]
        omega
      · rw [upd_same, List.take_succ, ex5, List.append_assoc]
        rfl
      · rw [upd_ne (fun e => by rw [e, hDG] at hbG; cases hbG)]
        exact hbG
    · refine .inl ⟨?_, SG, ?_⟩
      · have := (walk_tup (K := K) (a := b) (xs := rows[i])).stops G (SqT.of hbG)
        rw [show j = rows[i].length by omega]
        exact this
      · rw [tk]
        rw [show rows[i].take j = rows[i] from List.take_of_length_le (by omega)] at hDG
        exact hDG
  · refine .inl ⟨?_, ?_⟩
    · have := (walk_list (K := K) (a := tl) (xs := bs.map V.ref)).stops H (SqL.of (S _ _ hl))
      rw [List.length_map, lb] at this
      rw [show i = rows.length by omega]
      exact this
    · rw [List.take_of_length_le (by omega)] at hD
      exact q H D S nD hD
/-- a loop that may break: what holds behind it, however it ended -/
theorem fr_post {n : Nat} {g : TG} {tb : TS} {D : Ends} {σ : L2.St} {H : Hp} (Pv : Nat → L2.St → Hp → Prop) (Post : L2.St → Hp → Prop) (h0 : Pv 0 σ H)
    (hs : ∀ B : L2.St → Hp → Prop, (∀ σ H, Post σ H → B σ H) → ∀ (i : Nat) σ H, i < n → Pv i σ H → g (.int (i : Int)) σ H fun σ2 H2 => tb { D with nx := Pv (i + 1), ct := Pv (i + 1), bk := B } σ2 H2)
    (h1 : ∀ σ H, Pv n σ H → Post σ H) (hd : ∀ σ H, Post σ H → D.nx σ H) : Fr (Itr 0 n) g tb D σ H := fr_rng0 Pv h0 (hs D.nx hd) fun σ H p => hd _ _ (h1 _ _ p)
theorem one_emp {gs : List Int} {p : List Nat} : (p.filter fun c : Nat => decide (gs.count (c : Int) ≠ 1)) = [] ↔ One gs p := by
  rw [List.filter_eq_nil_iff]
  exact ⟨fun h c hc => by
    have := h c hc
    rw [decide_eq_true_eq] at this
    exact Classical.not_not.mp this, fun h c hc => by rw [decide_eq_true_eq]; exact fun k => k (h c hc)⟩
end Rv
/-! no log of copies to a goal is shorter than the blocks that change and the closed rings together (for k34) -/
namespace RL
variable {gs : List Int}
/-- a line is lost if its block is written again later -/
def lost (qs : List (Nat × Nat)) (i : Nat) : Prop := ∃ q, qs[i]? = some q ∧ ∃ (j : Nat) (q' : Nat × Nat), i < j ∧ qs[j]? = some q' ∧ q'.1 = q.1
/-- the number that line i puts down -/
def puts (qs : List (Nat × Nat)) (i : Nat) : Nat := match qs[i]? with
  | some q => run id (qs.take i) q.2
  | none => 0
theorem run_snoc (c : Nat → Nat) (a : List (Nat × Nat)) (q : Nat × Nat) (b : Nat) : run c (a ++ [q]) b = if b = q.1 then run c a q.2 else run c a b := by
  rw [run_app]
  rfl
theorem run_take (qs : List (Nat × Nat)) {i : Nat} {q : Nat × Nat} (h : qs[i]? = some q) (b : Nat) : run id (qs.take (i + 1)) b = if b = q.1 then run id (qs.take i) q.2 else run id (qs.take i) b := by
  rw [List.take_succ, h]
  exact run_snoc id (qs.take i) q b
/-- what stands at a block is its own number, or the last line that wrote it put it down -/
theorem run_last (qs : List (Nat × Nat)) (b : Nat) : ∀ i, i ≤ qs.length → (run id (qs.take i) b = b ∧ ∀ (j : Nat) q, j < i → qs[j]? = some q → q.1 ≠ b) ∨
    ∃ (j : Nat) (q : Nat × Nat), j < i ∧ qs[j]? = some q ∧ q.1 = b ∧ run id (qs.take i) b = puts qs j ∧ ∀ (k : Nat) q', j < k → k < i → qs[k]? = some q' → q'.1 ≠ b := by
  intro i
  induction i with
  | zero => exact fun _ => .inl ⟨by rw [List.take_zero]; rfl, fun j q hj => absurd hj (Nat.not_lt_zero _)⟩
  | succ i ih =>
    intro hi
    have e : qs[i]? = some qs[i] := List.getElem?_eq_getElem (by omega)
    have rt := run_take qs e b
    by_cases k : b = qs[i].1
    · refine .inr ⟨i, qs[i], Nat.lt_succ_self i, e, k.symm, ?_, fun m q' h1 h2 => absurd h1 (by omega)⟩
      rw [rt, if_pos k]
      unfold puts
      rw [e]
    · rw [if_neg k] at rt
      rcases ih (by omega) with ⟨a, no⟩ | ⟨j, q, h1, h2, h3, h4, h5⟩
      · refine .inl ⟨rt.trans a, fun j q hj hq => ?_⟩
        by_cases z : j = i
        · subst z
          rw [e] at hq
          cases hq
          exact fun w => k w.symm
        · exact no j q (by omega) hq
      · refine .inr ⟨j, q, by omega, h2, h3, rt.trans h4, fun m q' m1 m2 hm => ?_⟩
        by_cases z : m = i
        · subst z
          rw [e] at hm
          cases hm
          exact fun w => k w.symm
        · exact h5 m q' m1 (by omega) hm
/-- each number at a block was put there by a line, if the block isn't its home; and each line's number was somewhere -/
theorem ring_lost (G : GOk gs) {qs : List (Nat × Nat)} (fin : ∀ b, b < gs.length → run id qs b = gn gs b) (ok : ∀ q ∈ qs, q.1 < gs.length ∧ q.2 < gs.length) {p : List Nat} (hp : p ∈ clos gs) :
    ∃ i, i < qs.length ∧ lost qs i ∧ puts qs i ∈ p := by
  obtain ⟨R, O⟩ := clos_of G hp
  apply Classical.byContradiction
  intro none
  -- a line that puts a number of the ring down lasts, so its block wants that number and lies in the ring
  have last : ∀ (i : Nat) q, qs[i]? = some q → puts qs i ∈ p → q.1 ∈ p ∧ gn gs q.1 = puts qs i := fun i q e hin => by
    have li := (List.getElem?_eq_some_iff.mp e).1
    have nl : ¬ lost qs i := fun k => none ⟨i, li, k, hin⟩
    have lq := (ok q (List.mem_of_getElem? e)).1
    have w : run id qs q.1 = puts qs i := by
      have z := run_last qs q.1 qs.length (Nat.le_refl _)
      rw [List.take_length] at z
      rcases z with ⟨_, no⟩ | ⟨j, q', h1, h2, h3, h4, h5⟩
      · exact absurd rfl (no i q li e)
      · rcases Nat.lt_trichotomy i j with k | k | k
        · exact absurd ⟨q, e, j, q', k, h2, h3⟩ nl
        · subst k
          exact h4
        · exact absurd rfl (h5 i q k li e)
    have w2 := fin q.1 lq
    rw [w] at w2
    refine ⟨?_, w2.symm⟩
    obtain ⟨y, hy, ey⟩ := R.prev hin
    have e1 := (G.at lq).1
    have e2 := (G.at (R.b.lt y hy)).1
    rw [← w2] at e1
    rw [ey] at e2
    rw [cnt_uniq (O _ hin) e1 e2]
    exact hy
  -- before the first line onto a block of the ring, its numbers stand at home and nowhere else
  obtain ⟨b0, hb0⟩ : ∃ b, b ∈ p := ⟨_, last_mem R.b.ne⟩
  have some_ : ∃ (i : Nat) (q : Nat × Nat), qs[i]? = some q ∧ q.1 ∈ p := by
    have z := run_last qs b0 qs.length (Nat.le_refl _)
    rw [List.take_length, fin b0 (R.b.lt b0 hb0)] at z
    rcases z with ⟨e, _⟩ | ⟨j, q, _, h2, h3, _⟩
    · exact absurd e (R.moves hb0)
    · exact ⟨j, q, h2, by rw [h3]; exact hb0⟩
  obtain ⟨i0, ⟨q0, e0, hq0⟩, first⟩ : ∃ i : Nat, (∃ q : Nat × Nat, qs[i]? = some q ∧ q.1 ∈ p) ∧ ∀ j : Nat, j < i → ¬ ∃ q : Nat × Nat, qs[j]? = some q ∧ q.1 ∈ p := by
    obtain ⟨i, hi⟩ := some_
    induction i using Nat.strongRecOn with
    | _ i ih =>
      by_cases k : ∃ j : Nat, j < i ∧ ∃ q : Nat × Nat, qs[j]? = some q ∧ q.1 ∈ p
      · obtain ⟨j, h1, h2⟩ := k
        exact ih j h1 h2
      · exact ⟨i, hi, fun j hj h => k ⟨j, hj, h⟩⟩
  have li0 := (List.getElem?_eq_some_iff.mp e0).1
  have only : ∀ y, run id (qs.take i0) y ∈ p → run id (qs.take i0) y = y := fun y hy => by
    rcases run_last qs y i0 (by omega) with ⟨h, _⟩ | ⟨j, q, h1, h2, h3, h4, _⟩
    · exact h
    · rw [h4] at hy
      have := (last j q h2 hy).1
      exact absurd ⟨q, h2, this⟩ (first j h1)
  -- the number of that block is lost then
  have gone : ∀ d, i0 + 1 + d ≤ qs.length → ∀ y, run id (qs.take (i0 + 1 + d)) y ≠ q0.1 := by
    intro d
    induction d with
    | zero =>
      intro _ y hy
      rw [Nat.add_zero, run_take qs e0 y] at hy
      by_cases k : y = q0.1
      · rw [if_pos k] at hy
        have hin : puts qs i0 ∈ p := by
          unfold puts
          rw [e0]
          show run id (qs.take i0) q0.2 ∈ p
          rw [hy]
          exact hq0
        have w := (last i0 q0 e0 hin).2
        unfold puts at w
        rw [e0] at w
        have w : gn gs q0.1 = run id (qs.take i0) q0.2 := w
        rw [hy] at w
        exact R.moves hq0 w
      · rw [if_neg k] at hy
        have := only y (by rw [hy]; exact hq0)
        exact k (this.symm.trans hy)
    | succ d ih =>
      intro hd y hy
      have ed : qs[i0 + 1 + d]? = some qs[i0 + 1 + d] := List.getElem?_eq_getElem (by omega)
      have rt := run_take qs ed y
      rw [show i0 + 1 + (d + 1) = i0 + 1 + d + 1 by omega, rt] at hy
      by_cases k : y = qs[i0 + 1 + d].1
      · rw [if_pos k] at hy
        exact ih (by omega) _ hy
      · rw [if_neg k] at hy
        exact ih (by omega) _ hy
  obtain ⟨u, hu, eu⟩ := R.prev hq0
  have := gone (qs.length - (i0 + 1)) (by omega) u
  rw [show i0 + 1 + (qs.length - (i0 + 1)) = qs.length by omega, List.take_length, fin u (R.b.lt u hu)] at this
  exact this eu
theorem mov_lines {qs : List (Nat × Nat)} (fin : ∀ b, b < gs.length → run id qs b = gn gs b) : ∀ l : List Nat, l.Nodup → (∀ b ∈ l, b < gs.length ∧ gn gs b ≠ b) →
    ∃ A : List Nat, A.length = l.length ∧ A.Nodup ∧ ∀ a ∈ A, ∃ q, qs[a]? = some q ∧ q.1 ∈ l ∧ ¬ lost qs a := by
  intro l
  induction l with
  | nil => exact fun _ _ => ⟨[], rfl, List.nodup_nil, fun a h => by cases h⟩
  | cons b r ih =>
    intro nd h
    have nd' := List.nodup_cons.mp nd
    obtain ⟨A, la, na, ha⟩ := ih nd'.2 fun x hx => h x (List.mem_cons_of_mem _ hx)
    have hb := h b (List.mem_cons_self ..)
    have z := run_last qs b qs.length (Nat.le_refl _)
    rw [List.take_length, fin b hb.1] at z
    rcases z with ⟨e, _⟩ | ⟨j, q, h1, h2, h3, _, h5⟩
    · exact absurd e hb.2
    · have nl : ¬ lost qs j := fun ⟨q', e', k, q2, hk, e2, eq⟩ => by
        rw [h2] at e'
        cases e'
        exact h5 k q2 hk (List.getElem?_eq_some_iff.mp e2).1 e2 (eq.trans h3)
      refine ⟨j :: A, by rw [List.length_cons, List.length_cons, la], List.nodup_cons.mpr ⟨fun hj => ?_, na⟩, fun a hx => ?_⟩
      · obtain ⟨q', e', hr, _⟩ := ha j hj
        rw [h2] at e'
        cases e'
        rw [h3] at hr
        exact nd'.1 hr
      · rcases List.mem_cons.mp hx with e | hx
        · rw [e]
          exact ⟨q, h2, by rw [h3]; exact List.mem_cons_self .., nl⟩
        · obtain ⟨q', e', hr, n⟩ := ha a hx
          exact ⟨q', e', List.mem_cons_of_mem _ hr, n⟩
theorem ring_lines (G : GOk gs) {qs : List (Nat × Nat)} (fin : ∀ b, b < gs.length → run id qs b = gn gs b) (ok : ∀ q ∈ qs, q.1 < gs.length ∧ q.2 < gs.length) : ∀ ps : List (List Nat), (ps.Pairwise fun p q => ∀ x ∈ p, x ∉ q) → (∀ p ∈ ps, p ∈ clos gs) →
    ∃ A : List Nat, A.length = ps.length ∧ A.Nodup ∧ ∀ a ∈ A, a < qs.length ∧ lost qs a ∧ ∃ p ∈ ps, puts qs a ∈ p := by
  intro ps
  induction ps with
  | nil => exact fun _ _ => ⟨[], rfl, List.nodup_nil, fun a h => by cases h⟩
  | cons p r ih =>
    intro pw h
    have pw' := List.pairwise_cons.mp pw
    obtain ⟨A, la, na, ha⟩ := ih pw'.2 fun x hx => h x (List.mem_cons_of_mem _ hx)
    obtain ⟨j, h1, h2, h3⟩ := ring_lost G fin ok (h p (List.mem_cons_self ..))
    refine ⟨j :: A, by rw [List.length_cons, List.length_cons, la], List.nodup_cons.mpr ⟨fun hj => ?_, na⟩, fun a hx => ?_⟩
    · obtain ⟨_, _, p', hp', hin⟩ := ha j hj
      exact pw'.1 p' hp' _ h3 hin
    · rcases List.mem_cons.mp hx with e | hx
      · rw [e]
        exact ⟨h1, h2, p, List.mem_cons_self .., h3⟩
      · obtain ⟨a1, a2, p', hp', hin⟩ := ha a hx
        exact ⟨a1, a2, p', List.mem_cons_of_mem _ hp', hin⟩
/-- the bound -/
theorem none_shorter (G : GOk gs) {qs : List (Nat × Nat)} (fin : ∀ b, b < gs.length → run id qs b = gn gs b) (ok : ∀ q ∈ qs, q.1 < gs.length ∧ q.2 < gs.length) : (mov gs gs.length).length + (clos gs).length ≤ qs.length := by
  obtain ⟨A, la, na, ha⟩ := mov_lines fin (mov gs gs.length) (nd_mov _) fun b hb => mem_mov.mp hb
  obtain ⟨B, lb, nb, hb⟩ := ring_lines G fin ok (clos gs) (clos_apart G) fun p hp => hp
  have := nd_len qs.length (A ++ B) (List.nodup_append.mpr ⟨na, nb, fun a h1 b h2 e => by
    obtain ⟨_, _, _, nl⟩ := ha a h1
    exact nl (by rw [show a = b from e]; exact (hb b h2).2.1)⟩) fun x hx => by
      rcases List.mem_append.mp hx with k | k
      · obtain ⟨q, e, _⟩ := ha x k
        exact (List.getElem?_eq_some_iff.mp e).1
      · exact (hb x k).1
  rw [List.length_append, la, lb] at this
  exact this
/-- a number that no block holds comes back to none -/
theorem gone_on {qs : List (Nat × Nat)} {v i : Nat} (h : ∀ y, run id (qs.take i) y ≠ v) : ∀ d, i + d ≤ qs.length → ∀ y, run id (qs.take (i + d)) y ≠ v := by
  intro d
  induction d with
  | zero => exact fun _ => h
  | succ d ih =>
    intro hd y hy
    have ed : qs[i + d]? = some qs[i + d] := List.getElem?_eq_getElem (by omega)
    rw [show i + (d + 1) = i + d + 1 by omega, run_take qs ed y] at hy
    by_cases k : y = qs[i + d].1
    · rw [if_pos k] at hy
      exact ih (by omega) _ hy
    · rw [if_neg k] at hy
      exact ih (by omega) _ hy
/-- a log to an image in which no number is missing changes nothing -/
theorem home_only {qs : List (Nat × Nat)} {g : Nat → Nat} {n : Nat} (fin : ∀ b, b < n → run id qs b = g b) (ok : ∀ q ∈ qs, q.1 < n ∧ q.2 < n) (all : ∀ v, v < n → ∃ b, b < n ∧ g b = v) : ∀ b, b < n → g b = b := by
  intro b hb
  apply Classical.byContradiction
  intro ne
  have step : ∀ i, i ≤ qs.length → (∀ y, run id (qs.take i) y = y) ∨ ∃ v, v < n ∧ ∀ y, run id (qs.take i) y ≠ v := by
    intro i
    induction i with
    | zero => exact fun _ => .inl fun y => by rw [List.take_zero]; rfl
    | succ i ih =>
      intro hi
      rcases ih (by omega) with h | ⟨v, hv, h⟩
      · have e : qs[i]? = some qs[i] := List.getElem?_eq_getElem (by omega)
        by_cases k : qs[i].2 = qs[i].1
        · refine .inl fun y => ?_
          rw [run_take qs e y, h, h]
          by_cases z : y = qs[i].1
          · rw [if_pos z, k, z]
          · rw [if_neg z]
        · refine .inr ⟨qs[i].1, (ok _ (List.getElem_mem (by omega))).1, fun y hy => ?_⟩
          rw [run_take qs e y, h, h] at hy
          by_cases z : y = qs[i].1
          · rw [if_pos z] at hy
            exact k hy
          · rw [if_neg z] at hy
            exact z hy
      · exact .inr ⟨v, hv, gone_on h 1 (by omega)⟩
  rcases step qs.length (Nat.le_refl _) with h | ⟨v, hv, h⟩
  · have := h b
    rw [List.take_length, fin b hb] at this
    exact ne this
  · obtain ⟨c, hc, e⟩ := all v hv
    have := h c
    rw [List.take_length, fin c hc] at this
    exact this e
end RL
/-! {t: v}, t a tuple -/
namespace Rv
open PySem PySem.Spec PyProof.Rows L2
section
variable {X : Cx} {k v : Expr} {tk tv : TE} {pos : Pos}
def tD1 (tk tv : TE) : TE := fun σ H Q => ∀ d, H d = none → tk σ (upd H d (.dT [])) fun x H1 => tv σ H1 fun y H2 => ∃ (b : Addr) (key : List Key), x = .ref b ∧ H2 b = some (.tup (key.map kV)) ∧ H2 d = some (.dT []) ∧ Q (.ref d) (upd H2 d (.dT (putK [] key y)))
theorem pe_d1 (hu : X.A.units + 64 < cLine) (hk : PE X k tk) (hv : PE X v tv) : PE X (.Dict [some k] [v] pos) (tD1 tk tv) := by
  refine ⟨fun pins s σ H Q I q => ?_⟩
  have nd := I.hok.fresh (Nat.le_refl s.heap.objs.size)
  have J := I.laid (a := s.heap.objs.size) (o := .dT []) (h' := s.heap.push { cls := .type "dict", data := .dict #[] }) (t' := s.toks) (fun _ _ z => Heap.get?_push_of_some _ z) (Nat.le_refl _) (dt_empty s.heap I.big)
  have both : L2.PPs X pos [some k] [v] [(tk, tv)] := L2.pps_cons hk hv L2.pps_nil
  refine wpAny_Dict_any rfl rfl (List.cons_ne_nil _ _) (show 1 ≤ 15 by decide) (thn (both.run pins _ σ _ (fun ps H2 => match ps with
    | [(x, y)] => ∃ (b : Addr) (key : List Key), x = .ref b ∧ H2 b = some (.tup (key.map kV)) ∧ H2 s.heap.objs.size = some (.dT []) ∧ Q (.ref s.heap.objs.size) (upd H2 s.heap.objs.size (.dT (putK [] key y)))
    | _ => False) J (q _ nd)) fun ws s2 hh => ?_)
  obtain ⟨ps, H2, I2, rel, hq⟩ := hh
  cases rel with
  | nil => exact False.elim hq
  | cons r0 rr =>
    cases rr with
    | cons _ _ => exact False.elim hq
    | nil =>
      rename_i p1 w1
      obtain ⟨x, y⟩ := p1
      obtain ⟨u, r⟩ := w1
      obtain ⟨b, key, ex, hb, hd, q2⟩ := hq
      obtain ⟨rx, ry⟩ := r0
      have ex : x = .ref b := ex
      subst ex
      cases (show u = Value.ref b from rx)
      obtain ⟨z, hs, xs, kt, dd⟩ := dt_of I2.hok hd
      unfold storeAll
      simp only [List.forIn_cons, List.forIn_nil]
      have hz : xs.length ≤ sizeLine := by rw [← Paired.length kt]; exact z
      refine wpAny_bind (wpAny_bind (wpAny_dictSet_heap (hsz := hz) (show X.A.units < cLine by omega) (key_of I2.hok hb) dd fun h' dd' sb => wpAny_pure (wpAny_pure ?_)))
      obtain ⟨o, es, ep, ho, h2, h3, h4, h5, h6⟩ := dd'
      have hl : (putK ([] : List (List Key × V)) key y).length ≤ sizeLine := by
        have := length_putK ([] : List (List Key × V)) key y
        rw [List.length_nil] at this
        rw [sizeLine_eq]
        omega
      refine ⟨.ref s.heap.objs.size, _, d_write (ob := .dT (putK [] key y)) I2 (by rw [hd]; exact True.intro) sb ⟨o, ho⟩ ⟨hl, hs, _, (kt.put key hb ry).keeps fun c ys ec => ?_, o, es, ep, ho, h2, h3, h4, h6⟩, rfl, q2⟩
      rw [upd_ne (ne_of ec hd (fun z => nomatch z))]
      exact ec
end
end Rv
/-! the search by breadth of k34: the least number of copies to each image -/
namespace RL
def cp (im : List Nat) (t s : Nat) : List Nat := im.set t (im.getD s 0)
def Reach (n k : Nat) (im : List Nat) : Prop := ∃ qs : List (Nat × Nat), qs.length = k ∧ (∀ q ∈ qs, q.1 < n ∧ q.2 < n) ∧ im = (List.range n).map (run id qs)
def Least (n k : Nat) (im : List Nat) : Prop := Reach n k im ∧ ∀ j, j < k → ¬ Reach n j im
theorem map_cp {n t s : Nat} {c : Nat → Nat} (ht : t < n) (hs : s < n) : cp ((List.range n).map c) t s = (List.range n).map (ap c (t, s)) := by
  have e : ((List.range n).map c).getD s 0 = c s := by
    rw [List.getD_eq_getElem?_getD, List.getElem?_map, List.getElem?_range hs]
    rfl
  unfold cp
  rw [e]
  apply List.ext_getElem?
  intro j
  by_cases k : j < n
  · rw [List.getElem?_map (f := ap c (t, s)), List.getElem?_range k]
    by_cases z : t = j
    · subst z
      rw [List.getElem?_set_self (by rw [List.length_map, List.length_range]; exact k)]
      exact congrArg some (if_pos rfl).symm
    · rw [List.getElem?_set_ne z, List.getElem?_map, List.getElem?_range k]
      exact congrArg some (if_neg (fun w => z w.symm)).symm
  · rw [List.getElem?_eq_none (by rw [List.length_set, List.length_map, List.length_range]; omega), List.getElem?_eq_none (by rw [List.length_map, List.length_range]; omega)]
theorem Reach.home (n : Nat) : Reach n 0 (List.range n) := ⟨[], rfl, fun q h => (by cases h), by
  show List.range n = (List.range n).map id
  rw [List.map_id]⟩
theorem Reach.next {n k t s : Nat} {im : List Nat} (h : Reach n k im) (ht : t < n) (hs : s < n) : Reach n (k + 1) (cp im t s) := by
  obtain ⟨qs, l, ok, e⟩ := h
  refine ⟨qs ++ [(t, s)], by rw [List.length_append, l, List.length_singleton], fun q hq => ?_, ?_⟩
  · rcases List.mem_append.mp hq with z | z
    · exact ok q z
    · rw [List.mem_singleton.mp z]; exact ⟨ht, hs⟩
  · rw [e, map_cp ht hs, run_app]
    rfl
theorem Reach.prev {n k : Nat} {im : List Nat} (h : Reach n (k + 1) im) : ∃ im0 t s, Reach n k im0 ∧ t < n ∧ s < n ∧ im = cp im0 t s := by
  obtain ⟨qs, l, ok, e⟩ := h
  have ne : qs ≠ [] := fun z => by rw [z] at l; cases l
  have z := List.dropLast_concat_getLast ne
  have ok2 := ok _ (List.getLast_mem ne)
  refine ⟨(List.range n).map (run id qs.dropLast), (qs.getLast ne).1, (qs.getLast ne).2, ⟨qs.dropLast, by rw [List.length_dropLast, l]; rfl, fun q hq => ok q (List.dropLast_subset qs hq), rfl⟩, ok2.1, ok2.2, ?_⟩
  rw [map_cp ok2.1 ok2.2, e]
  have : run id qs = run id (qs.dropLast ++ [qs.getLast ne]) := by rw [z]
  rw [this, run_app]
  rfl
theorem Reach.len {n k : Nat} {im : List Nat} (h : Reach n k im) : im.length = n := by
  obtain ⟨_, _, _, e⟩ := h
  rw [e, List.length_map, List.length_range]
theorem Reach.lt {n : Nat} : ∀ {k : Nat} {im : List Nat}, Reach n k im → ∀ x ∈ im, x < n := by
  intro k
  induction k with
  | zero =>
    intro im h x hx
    obtain ⟨qs, l, _, e⟩ := h
    have : qs = [] := List.eq_nil_of_length_eq_zero l
    rw [e, this] at hx
    obtain ⟨b, hb, e2⟩ := List.mem_map.mp hx
    rw [← e2]
    exact List.mem_range.mp hb
  | succ k ih =>
    intro im h x hx
    obtain ⟨im0, t, s, h0, ht, hs, e⟩ := h.prev
    rw [e] at hx
    rcases List.mem_or_eq_of_mem_set hx with z | z
    · exact ih h0 x z
    · rw [z, List.getD_eq_getElem?_getD, List.getElem?_eq_getElem (by rw [h0.len]; exact hs)]
      exact ih h0 _ (List.getElem_mem _)
theorem Reach.least {n k : Nat} {im : List Nat} (h : Reach n k im) : ∃ j, j ≤ k ∧ Least n j im := by
  induction k using Nat.strongRecOn with
  | _ k ih =>
    by_cases z : ∃ j, j < k ∧ Reach n j im
    · obtain ⟨j, hj, hr⟩ := z
      obtain ⟨i, hi, hl⟩ := ih j hj hr
      exact ⟨i, by omega, hl⟩
    · exact ⟨k, Nat.le_refl _, h, fun j hj hr => z ⟨j, hj, hr⟩⟩
theorem Least.uniq {n j k : Nat} {im : List Nat} (a : Least n j im) (b : Least n k im) : j = k := by
  rcases Nat.lt_trichotomy j k with h | h | h
  · exact absurd a.1 (b.2 j h)
  · exact h
  · exact absurd b.1 (a.2 k h)
theorem Least.prev {n k : Nat} {im : List Nat} (h : Least n (k + 1) im) : ∃ im0 t s, Least n k im0 ∧ t < n ∧ s < n ∧ im = cp im0 t s := by
  obtain ⟨im0, t, s, h0, ht, hs, e⟩ := h.1.prev
  refine ⟨im0, t, s, ⟨h0, fun j hj hr => h.2 (j + 1) (by omega) ?_⟩, ht, hs, e⟩
  rw [e]
  exact hr.next ht hs
/-- what the table holds when all images with at most d copies stand in it -/
def Done (n d : Nat) (f : List Nat → Option Nat) : Prop := ∀ im k, f im = some k ↔ k ≤ d ∧ Least n k im
/-- on the way from d to d + 1: what was found beyond -/
def Part (n d : Nat) (f : List Nat → Option Nat) (bey : List (List Nat)) : Prop :=
  (∀ im k, f im = some k ↔ (k ≤ d ∧ Least n k im) ∨ (k = d + 1 ∧ im ∈ bey)) ∧ ∀ im ∈ bey, Least n (d + 1) im
def Lev (n d : Nat) (L : List (List Nat)) : Prop := ∀ im, im ∈ L ↔ Least n d im
theorem Done.home {n : Nat} (f : List Nat → Option Nat) (h : ∀ im, f im = if im = List.range n then some 0 else none) : Done n 0 f := by
  intro im k
  rw [h]
  constructor
  · intro e
    by_cases z : im = List.range n
    · rw [if_pos z] at e
      cases e
      rw [z]
      exact ⟨Nat.le_refl _, .home n, fun j hj => absurd hj (Nat.not_lt_zero _)⟩
    · rw [if_neg z] at e
      cases e
  · rintro ⟨hk, ⟨qs, l, _, e⟩, _⟩
    have k0 : k = 0 := Nat.le_zero.mp hk
    subst k0
    have : qs = [] := List.eq_nil_of_length_eq_zero l
    rw [this] at e
    have e : im = (List.range n).map id := e
    rw [List.map_id] at e
    rw [if_pos e]
theorem Lev.home (n : Nat) : Lev n 0 [List.range n] := by
  intro im
  rw [List.mem_singleton]
  constructor
  · intro e
    rw [e]
    exact ⟨.home n, fun j hj => absurd hj (Nat.not_lt_zero _)⟩
  · rintro ⟨⟨qs, l, _, e⟩, _⟩
    have : qs = [] := List.eq_nil_of_length_eq_zero l
    rw [this] at e
    have e : im = (List.range n).map id := e
    rw [List.map_id] at e
    exact e
theorem Part.start {n d : Nat} {f : List Nat → Option Nat} (h : Done n d f) : Part n d f [] := ⟨fun im k => by
  rw [h im k]
  exact ⟨.inl, fun z => z.elim id fun w => by cases w.2⟩, fun im h => by cases h⟩
/-- an image that isn't in the table goes in -/
theorem Part.put {n d : Nat} {f f2 : List Nat → Option Nat} {bey : List (List Nat)} (P : Part n d f bey) {im : List Nat} (hl : Least n d im) {t s : Nat} (ht : t < n) (hs : s < n) (no : f (cp im t s) = none)
    (e2 : ∀ x, f2 x = if x = cp im t s then some (d + 1) else f x) : Part n d f2 (bey ++ [cp im t s]) := by
  have r := hl.1.next ht hs
  have nl : ∀ j, j ≤ d → ¬ Least n j (cp im t s) := fun j hj h => by
    have := (P.1 (cp im t s) j).mpr (.inl ⟨hj, h⟩)
    rw [no] at this
    cases this
  have lx : Least n (d + 1) (cp im t s) := ⟨r, fun j hj h => by
    obtain ⟨i, hi, hl⟩ := h.least
    exact nl i (by omega) hl⟩
  refine ⟨fun x k => ?_, fun x hx => ?_⟩
  · rw [e2]
    by_cases z : x = cp im t s
    · rw [if_pos z]
      constructor
      · intro e
        cases e
        exact .inr ⟨rfl, by rw [z]; exact List.mem_append_right _ (List.mem_singleton.mpr rfl)⟩
      · rintro (⟨hk, h⟩ | ⟨hk, _⟩)
        · rw [z] at h
          exact absurd h (nl k hk)
        · rw [hk]
    · rw [if_neg z, P.1 x k]
      constructor
      · rintro (h | ⟨hk, h⟩)
        · exact .inl h
        · exact .inr ⟨hk, List.mem_append_left _ h⟩
      · rintro (h | ⟨hk, h⟩)
        · exact .inl h
        · rcases List.mem_append.mp h with w | w
          · exact .inr ⟨hk, w⟩
          · exact absurd (List.mem_singleton.mp w) z
  · rcases List.mem_append.mp hx with w | w
    · exact P.2 x w
    · rw [List.mem_singleton.mp w]
      exact lx
/-- all of the level was gone through: the next level -/
theorem Part.fin {n d : Nat} {f : List Nat → Option Nat} {L bey : List (List Nat)} (P : Part n d f bey) (hL : Lev n d L) (all : ∀ im ∈ L, ∀ t, t < n → ∀ s, s < n → f (cp im t s) ≠ none) : Done n (d + 1) f ∧ Lev n (d + 1) bey := by
  have lev : Lev n (d + 1) bey := by
    intro im
    refine ⟨P.2 im, fun h => ?_⟩
    obtain ⟨im0, t, s, h0, ht, hs, e⟩ := h.prev
    cases e1 : f im with
    | none => exact absurd (by rw [← e]; exact e1) (all im0 ((hL im0).mpr h0) t ht s hs)
    | some k =>
      rcases (P.1 im k).mp e1 with ⟨hk, hl⟩ | ⟨_, hb⟩
      · have := hl.uniq h
        omega
      · exact hb
  refine ⟨fun im k => ?_, lev⟩
  rw [P.1 im k]
  constructor
  · rintro (⟨hk, h⟩ | ⟨hk, h⟩)
    · exact ⟨by omega, h⟩
    · rw [hk]
      exact ⟨Nat.le_refl _, P.2 im h⟩
  · rintro ⟨hk, h⟩
    by_cases z : k ≤ d
    · exact .inl ⟨z, h⟩
    · have e : k = d + 1 := by omega
      subst e
      exact .inr ⟨rfl, (lev im).mpr h⟩
/-- an empty level: the table is whole -/
theorem whole {n d : Nat} {f : List Nat → Option Nat} (D : Done n d f) (hL : Lev n d []) : ∀ im k, f im = some k ↔ Least n k im := by
  have none_ : ∀ j im, ¬ Least n (d + j) im := by
    intro j
    induction j with
    | zero =>
      intro im h
      have := (hL im).mpr h
      cases this
    | succ j ih =>
      intro im h
      obtain ⟨im0, _, _, h0, _⟩ := Least.prev (k := d + j) h
      exact ih im0 h0
  intro im k
  rw [D im k]
  refine ⟨fun h => h.2, fun h => ⟨?_, h⟩⟩
  by_cases z : k ≤ d
  · exact z
  · have := none_ (k - d) im
    rw [show d + (k - d) = k by omega] at this
    exact absurd h this
/-! the least number of a goal -/
theorem sp_whole {gs : List Int} (G : GOk gs) {s : Nat} : ∀ (m : Nat) {W : List Nat} {h : Nat → Nat} {T : List (Nat × Nat)}, Sp gs s W h T → W.length = m → ∃ h' T', Sp gs s [] h' T' := by
  intro m
  induction m with
  | zero =>
    intro W h T P hl
    have : W = [] := List.eq_nil_of_length_eq_zero hl
    subst this
    exact ⟨h, T, P⟩
  | succ m ih =>
    intro W h T P hl
    obtain ⟨t, ht, pk⟩ := sp_pick G P (fun e => by rw [e] at hl; cases hl)
    exact ih (sp_step G P ht pk) (by rw [List.length_erase_of_mem ht, hl]; rfl)
def imN (gs : List Int) : List Nat := (List.range gs.length).map (gn gs)
theorem goal_least {gs : List Int} (G : GOk gs) (h : mov gs gs.length = [] ∨ ∃ s, s < gs.length ∧ ∀ b, b < gs.length → gn gs b ≠ s) : Least gs.length ((mov gs gs.length).length + (clos gs).length) (imN gs) := by
  obtain ⟨s, hs⟩ : ∃ s, Spare gs s := by
    rcases h with m | ⟨s, h1, h2⟩
    · refine ⟨0, fun ne => ?_⟩
      exfalso
      obtain ⟨p, hp⟩ := List.exists_mem_of_ne_nil _ ne
      have R := (clos_of G hp).1
      have hx := last_mem R.b.ne
      have : p.getLastD 0 ∈ mov gs gs.length := mem_mov.mpr ⟨R.b.lt _ hx, R.moves hx⟩
      rw [m] at this
      cases this
    · exact ⟨s, fun _ => ⟨h1, h2⟩⟩
  obtain ⟨h', T, P⟩ := sp_whole G _ (sp_start G hs) rfl
  have lq : (rows0 gs s ++ T).length = (mov gs gs.length).length + (clos gs).length := by
    rw [List.length_append]
    have e1 : (rows0 gs s).length = (inr gs).length + (clos gs).length := tps_len (clos gs)
    have e2 := P.len
    have e3 := mov_len G
    rw [List.length_nil] at e2
    omega
  have fin : ∀ b, b < gs.length → run id (rows0 gs s ++ T) b = gn gs b := fun b hb => sp_end P hb
  have ok : ∀ q ∈ rows0 gs s ++ T, q.1 < gs.length ∧ q.2 < gs.length := fun w hw => by
    have : VP gs.length w := by
      rcases List.mem_append.mp hw with k1 | k1
      · obtain ⟨p, hp, hx⟩ := List.mem_flatMap.mp k1
        exact ring_vp (clos_of G hp).1 (hs.out G hp) (hs (fun e => by rw [e] at hp; cases hp)).1 w hx
      · exact P.val w k1
    exact ⟨this.1, this.2.1⟩
  refine ⟨⟨_, lq, ok, List.map_congr_left fun b hb => (fin b (List.mem_range.mp hb)).symm⟩, fun j hj hr => ?_⟩
  obtain ⟨qs, l, ok2, e⟩ := hr
  have fin2 : ∀ b, b < gs.length → run id qs b = gn gs b := fun b hb => by
    have e2 := congrArg (fun l => l[b]?) e
    simp only [imN, List.getElem?_map, List.getElem?_range hb, Option.map_some] at e2
    exact (Option.some.inj e2).symm
  have := none_shorter G fin2 ok2
  omega
theorem goal_none {gs : List Int} (G : GOk gs) (m : mov gs gs.length ≠ []) (u : ¬ ∃ s, s < gs.length ∧ ∀ b, b < gs.length → gn gs b ≠ s) : ∀ k, ¬ Reach gs.length k (imN gs) := by
  rintro k ⟨qs, l, ok, e⟩
  have fin : ∀ b, b < gs.length → run id qs b = gn gs b := fun b hb => by
    have e2 := congrArg (fun l => l[b]?) e
    simp only [imN, List.getElem?_map, List.getElem?_range hb, Option.map_some] at e2
    exact (Option.some.inj e2).symm
  have h := home_only fin ok fun v hv => by
    apply Classical.byContradiction
    intro no
    exact u ⟨v, hv, fun b hb e => no ⟨b, hb, e⟩⟩
  obtain ⟨b, hb⟩ := List.exists_mem_of_ne_nil _ m
  exact (mem_mov.mp hb).2 (h b (mem_mov.mp hb).1)
end RL
/-! a tuple that is known to have no dict as a key -/
namespace Rv
open PySem PySem.Spec PyProof.Rows L2
def keyI (gs : List Int) : List Key := gs.map Sum.inl
theorem keyI_kV (gs : List Int) : (keyI gs).map kV = gs.map V.int := by
  unfold keyI
  rw [List.map_map]
  rfl
theorem keyG {P : Program} {w : World} {H : Hp} {h : Heap} {a : Addr} {gs : List Int} (ok : HOk P w H h) (g : GT H a gs) : (tupleKind (mixKind P w)).is h (keyI gs) a := by
  obtain ⟨o, e, _⟩ := g
  have ob : ObjOk P w H h a (.frz o (.tup (gs.map V.int))) := ok a _ e
  rw [← keyI_kV] at ob
  obtain ⟨_, _, its, r, o2, h1, h2, n, h3⟩ := ob
  exact ⟨o2, its.toArray, n, h1, h2, h3, by simpa using items_are r⟩
section
variable {X : Cx} {i o : Expr} {ty td : TE} {pos : Pos}
def NinG (y x : V) (H : Hp) (Q : VK) : Prop := ∃ (a b : Addr) (gs : List Int) (kvs : List (List Key × V)), y = .ref b ∧ GT H b gs ∧ x = .ref a ∧ H a = some (.dT kvs) ∧ Q (.bl (!(valV kvs (keyI gs)).isSome)) H
def tNinG (ty td : TE) : TE := fun σ H Q => ty σ H fun y H1 => td σ H1 fun x H2 => NinG y x H2 Q
theorem pc_ninG (hu : X.A.units + 64 < cLine) (hi : PE X i ty) (ho : PE X o td) : PC X .NotIn i o (tNinG ty td) := by
  refine ⟨fun pins s σ H Q I h => ?_⟩
  refine thn (hi.run pins s σ H _ I h) fun iv s1 ⟨y, H1, I1, ry, q1⟩ => thn (ho.run pins s1 σ H1 _ I1 q1) fun u s2 ⟨x, H2, I2, rx, a, b, gs, kvs, ey, g, ex, hd, q2⟩ => ?_
  subst ex ey
  cases (show iv = Value.ref b from ry)
  cases (show u = Value.ref a from rx)
  obtain ⟨_, hs, xs, kt, dd⟩ := dt_of I2.hok hd
  refine wpAny_notIn_heap (knd := tupleKind (mixKind X.prog X.w)) (tupleKind_room_in1 (by omega)) (keyG I2.hok g) hs dd ?_
  have e := (kt.val (keyI gs)).isSome_eq
  rw [Option.isSome_map] at e
  rw [← e]
  exact ⟨.bl (!(valV kvs (keyI gs)).isSome), H2, I2.tok _, rfl, q2⟩
def GetG (x y : V) (H : Hp) (Q : VK) : Prop := ∃ (a b : Addr) (gs : List Int) (kvs : List (List Key × V)) (v : V), x = .ref a ∧ H a = some (.dT kvs) ∧ y = .ref b ∧ GT H b gs ∧ valV kvs (keyI gs) = some v ∧ Q v H
def tGetG (td ty : TE) : TE := fun σ H Q => td σ H fun x H1 => ty σ H1 fun y H2 => GetG x y H2 Q
theorem pe_getG (hu : X.A.units + 64 < cLine) (ho : PE X o td) (hi : PE X i ty) (hs : NoSl i) : PE X (.Subscript o i pos) (tGetG td ty) := by
  refine ⟨fun pins s σ H Q I h => ?_⟩
  refine subD_of PySem.F.slot_dict_getitem.lookup hs (thn (ho.run pins s σ H _ I h) fun u s1 ⟨x, H1, I1, rx, q1⟩ => thn (hi.run pins s1 σ H1 _ I1 q1) fun iv s2 ⟨y, H2, I2, ry, a, b, gs, kvs, v, ex, hd, ey, g, hv, q2⟩ => ?_)
  subst ex ey
  cases (show u = Value.ref a from rx)
  cases (show iv = Value.ref b from ry)
  obtain ⟨_, _, xs, kt, dd⟩ := dt_of I2.hok hd
  obtain ⟨w', hw, rw'⟩ := RelO.some_of (v := v) (o := (atKey xs (keyI gs)).map (·.2)) (by rw [← hv]; exact kt.val (keyI gs))
  obtain ⟨p, hp, hp2⟩ := Option.map_eq_some_iff.mp hw
  refine ⟨dd.typeIs, wpAny_getItem_heap (knd := tupleKind (mixKind X.prog X.w)) (tupleKind_room_in1 (by omega)) (keyG I2.hok g) dd hp ?_⟩
  rw [hp2]
  exact ⟨v, H2, I2.tok _, rw', q2⟩
end
/-! t + u, empty ones too -/
def rCat3 (K : PySem.W.Frag) : R2 := fun x y H Q => ∃ (a b : Addr) (xs ys : List V), x = .ref a ∧ y = .ref b ∧ SqT K H a xs ∧ SqT K H b ys ∧ xs.length + ys.length ≤ sizeLine ∧
  (xs = [] → Q (.ref b) H) ∧ (xs ≠ [] → ys = [] → Q (.ref a) H) ∧ (xs ≠ [] → ys ≠ [] → ∀ p, H p = none → Q (.ref p) (upd H p (.tup (xs ++ ys))))
theorem op_cat3 {X : Cx} : OpR X (binaryOp .Add) (rCat3 X.K) := by
  intro pins s σ H x y v u Q I rx ry h
  obtain ⟨a, b, xs, ys, rfl, rfl, ha, hb, hz, q0, q1, q2⟩ := h
  by_cases ne : xs = []
  · subst ne
    cases rx
    cases ry
    obtain ⟨its, r1, p1, _⟩ := I.tuple ha
    obtain ⟨its2, r2, p2, _⟩ := I.tuple hb
    cases r1
    obtain ⟨⟨cls, dd, data, sl⟩, ho, hc, n, hd⟩ := id p1
    obtain ⟨⟨cls2, dd2, data2, sl2⟩, ho2, hc2, n2, hd2⟩ := id p2
    simp only at hc hd hc2 hd2
    subst hc hd hc2 hd2
    exact concat_meets ⟨_, ho, rfl⟩ ⟨_, ho2, rfl⟩ noFill_tuple_add seq_tuple_add PySem.F.slot_tuple_add PySem.F.entry_tuple_add (PySem.F.args_tuple_add_2 _ _) (tuple_addW0 a b _ _ n n2 dd dd2 sl sl2 rfl) ⟨ho, ho2, ⟨.ref b, H, I, rfl, q0 rfl⟩⟩
  · exact op_catT pins s σ H _ _ v u Q I rx ry ⟨a, b, xs, ys, rfl, rfl, ha, hb, ne, hz, fun e => q1 ne e, fun e => q2 ne e⟩
theorem rd_cat3 {K : PySem.W.Frag} {H : Hp} {Q : VK} {a b : Addr} {xs ys : List V} (h : H a = some (.tup xs)) (h2 : H b = some (.tup ys)) (l : xs.length + ys.length ≤ 1000) (q : ∀ H2 p, Same H H2 → H2 p = some (.tup (xs ++ ys)) → Q (.ref p) H2) : rCat3 K (.ref a) (.ref b) H Q :=
  ⟨a, b, xs, ys, rfl, rfl, .of h, .of h2, Nat.le_of_lt (small1000 (by omega)), fun e => q H b (Same.refl _) (by rw [e]; exact h2), fun _ e => q H a (Same.refl _) (by rw [e, List.append_nil]; exact h), fun _ _ p np => q _ p (same_new (Same.refl _) np) upd_same⟩
end Rv
/-! the table of k34: images and numbers -/
namespace Rv
open PySem PySem.Spec PyProof.Rows L2 RL
theorem ky_keyI (gs : List Int) : ky gs = keyI gs := rfl
theorem niz_inj {a b : List Nat} (h : niz a = niz b) : a = b := by
  unfold niz at h
  exact List.map_inj_right (f := fun x : Nat => (x : Int)) (fun x y e => Int.ofNat.inj e) |>.mp h
structure FarAt (H : Hp) (d : Addr) (f : List Nat → Option Nat) (ks : List (List Nat)) : Prop where
  dk : Dk H d (ks.map niz)
  va : ∀ kvs, H d = some (.dT kvs) → ∀ im, valV kvs (keyI (niz im)) = (f im).map fun k : Nat => V.int (k : Int)
theorem FarAt.keep {H H' : Hp} {d : Addr} {f : List Nat → Option Nat} {ks : List (List Nat)} (F : FarAt H d f ks) (e : H' d = H d) : FarAt H' d f ks := ⟨by
  obtain ⟨⟨kvs, h, k⟩, nd⟩ := F.dk
  exact ⟨⟨kvs, by rw [e]; exact h, k⟩, nd⟩, fun kvs h => F.va kvs (by rw [← e]; exact h)⟩
theorem FarAt.same {H H' : Hp} {d : Addr} {f : List Nat → Option Nat} {ks : List (List Nat)} (F : FarAt H d f ks) (S : Same H H') : FarAt H' d f ks := by
  obtain ⟨kvs, h, _⟩ := F.dk.ex
  exact F.keep (by rw [S _ _ h, h])
theorem FarAt.mut {H : Hp} {d l : Addr} {o : HO} {f : List Nat → Option Nat} {ks : List (List Nat)} (F : FarAt H d f ks) (n : d ≠ l) : FarAt (upd H l o) d f ks := F.keep (upd_ne n)
theorem FarAt.dom {H : Hp} {d : Addr} {f : List Nat → Option Nat} {ks : List (List Nat)} (F : FarAt H d f ks) (im : List Nat) : f im = none ↔ im ∉ ks := by
  obtain ⟨kvs, h, e⟩ := F.dk.ex
  have v := val_keys (es := niz im) kvs (ks.map niz) e
  rw [ky_keyI, F.va kvs h im] at v
  have m : niz im ∈ ks.map niz ↔ im ∈ ks := by
    rw [List.mem_map]
    exact ⟨fun ⟨x, hx, e⟩ => niz_inj e ▸ hx, fun hx => ⟨im, hx, rfl⟩⟩
  rw [m] at v
  cases z : f im with
  | none =>
    rw [z] at v
    exact ⟨fun _ k => (by have := v.mpr k; cases this), fun _ => rfl⟩
  | some k =>
    rw [z] at v
    exact ⟨fun e => (by cases e), fun n => absurd (v.mp rfl) n⟩
theorem FarAt.nd {H : Hp} {d : Addr} {f : List Nat → Option Nat} {ks : List (List Nat)} (F : FarAt H d f ks) : ks.Nodup := by
  have := F.dk.nd
  exact (List.pairwise_map.mp this).imp fun h e => h (by rw [e])
/-- `x not in far` -/
theorem rd_farN {H : Hp} {d b : Addr} {f : List Nat → Option Nat} {ks : List (List Nat)} {x : List Nat} {Q : VK} (F : FarAt H d f ks) (hb : H b = some (.tup (nvs x))) (q : Q (.bl (decide (f x = none))) H) : DN (.ref d) (.ref b) H Q := by
  refine rd_DN F.dk (es := niz x) hb fun c hc => ?_
  have : c = decide (f x = none) := by
    rw [Bool.eq_iff_iff, decide_eq_true_eq, hc, F.dom x, List.mem_map]
    exact not_congr ⟨fun ⟨y, hy, e⟩ => niz_inj e ▸ hy, fun hx => ⟨x, hx, rfl⟩⟩
  rw [this]
  exact q
theorem rd_farP {H : Hp} {d b : Addr} {f : List Nat → Option Nat} {ks : List (List Nat)} {x : List Nat} {k : Nat} {R : Hp → Prop} (F : FarAt H d f ks) (hb : H b = some (.tup (nvs x))) (hl : ks.length < 1000) (no : f x = none)
    (q : ∀ H2 f2, (∃ kvs, H2 = upd H d (.dT kvs)) → (∀ y, f2 y = if y = x then some k else f y) → FarAt H2 d f2 (ks ++ [x]) → R H2) : DP (.ref d) (.ref b) (V.int (k : Int)) H R := by
  obtain ⟨kvs, h, e⟩ := F.dk.ex
  have lk : kvs.length = ks.length := by
    have := congrArg List.length e
    rwa [List.length_map, List.length_map, List.length_map] at this
  have nx : niz x ∉ ks.map niz := fun z => by
    obtain ⟨y, hy, e2⟩ := List.mem_map.mp z
    exact (F.dom x).mp no (niz_inj e2 ▸ hy)
  refine ⟨d, _, rfl, DPut.t (k := keyI (niz x)) h (by rw [keyI_kV]; exact hb) (small1000 (by omega)), ?_⟩
  refine q _ (fun y => if y = x then some k else f y) ⟨_, rfl⟩ (fun y => rfl) ⟨⟨⟨_, upd_same, ?_⟩, ?_⟩, fun kvs2 h2 im => ?_⟩
  · have s : valV kvs (keyI (niz x)) = none := by rw [F.va kvs h x, no]; rfl
    rw [putK_new _ s, List.map_append, List.map_append, List.map_append, e]
    rfl
  · rw [List.map_append, List.nodup_append]
    exact ⟨F.dk.nd, by simp, fun a ha c hc => by
      rw [List.map_cons, List.map_nil, List.mem_singleton] at hc
      rw [hc]
      exact fun z => nx (z ▸ ha)⟩
  · rw [upd_same] at h2
    cases h2
    rw [valV_put]
    by_cases z : im = x
    · rw [z, if_pos rfl, if_pos rfl]
      rfl
    · rw [if_neg (show ¬ keyI (niz im) = keyI (niz x) from fun w => z (niz_inj (ky_inj w))), if_neg z]
      exact F.va kvs h im
theorem rd_d1 {σ : L2.St} {H : Hp} {Q : VK} {i : Nat} {b : Addr} {x : List Nat} {k : Nat} (hv : σ[i]? = some (some (.ref b))) (hb : H b = some (.tup (nvs x)))
    (q : ∀ H2 d f, Same H H2 → H d = none → FarAt H2 d f [x] → (∀ y, f y = if y = x then some k else none) → Q (.ref d) H2) : tD1 (tVar i) (tC (.int (k : Int))) σ H Q := by
  intro d nd
  have nb : b ≠ d := fun e => by rw [e, nd] at hb; cases hb
  refine ⟨.ref b, hv, b, keyI (niz x), rfl, by rw [upd_ne nb, keyI_kV]; exact hb, upd_same, ?_⟩
  have nk : putK ([] : List (List Key × V)) (keyI (niz x)) (V.int (k : Int)) = [(keyI (niz x), V.int (k : Int))] := putK_new _ rfl
  rw [upd_upd, nk]
  refine q _ d (fun y => if y = x then some k else none) (same_new (Same.refl _) nd) nd ⟨⟨⟨_, upd_same, rfl⟩, by simp⟩, fun kvs h im => ?_⟩ (fun y => rfl)
  rw [upd_same] at h
  cases h
  by_cases z : im = x
  · rw [z, if_pos rfl]
    exact valV_pos rfl
  · rw [if_neg z, valV_neg (fun w => z (niz_inj (ky_inj w)).symm)]
    rfl
theorem fr_postL {lo : Int} {n : Nat} {g : TG} {tb : TS} {D : Ends} {σ : L2.St} {H : Hp} (Pv : Nat → L2.St → Hp → Prop) (Post : L2.St → Hp → Prop) (h0 : Pv 0 σ H)
    (hs : ∀ B : L2.St → Hp → Prop, (∀ σ H, Post σ H → B σ H) → ∀ (i : Nat) σ H, i < n → Pv i σ H → g (.int (lo + i)) σ H fun σ2 H2 => tb { D with nx := Pv (i + 1), ct := Pv (i + 1), bk := B } σ2 H2)
    (h1 : ∀ σ H, Pv n σ H → Post σ H) (hd : ∀ σ H, Post σ H → D.nx σ H) : Fr (Itr lo n) g tb D σ H := fr_rng Pv h0 (hs D.nx hd) fun σ H p => hd _ _ (h1 _ _ p)
theorem cp_cut {im : List Nat} {t s : Nat} (h : t < im.length) : nvs (im.take t) ++ [V.int ((im.getD s 0 : Nat) : Int)] ++ nvs (im.drop (t + 1)) = nvs (cp im t s) := by
  unfold cp
  rw [List.set_eq_take_append_cons_drop, if_pos h, nvs_app, List.append_assoc]
  rfl
theorem rd_farP2 {H : Hp} {d b : Addr} {f : List Nat → Option Nat} {ks : List (List Nat)} {x : List Nat} {k : Nat} {kk : Int} {R : Hp → Prop} (hk : kk = (k : Int)) (F : FarAt H d f ks) (hb : H b = some (.tup (nvs x))) (hl : ks.length < 1000) (no : f x = none)
    (q : ∀ H2 f2, (∃ kvs, H2 = upd H d (.dT kvs)) → (∀ y, f2 y = if y = x then some k else f y) → FarAt H2 d f2 (ks ++ [x]) → R H2) : DP (.ref d) (.ref b) (V.int kk) H R := by
  subst hk
  exact rd_farP F hb hl no q
theorem rd_getG {σ : L2.St} {H : Hp} {Q : VK} {i j : Nat} {a b : Addr} {gs : List Int} {kvs : List (List Key × V)} {v : V} (hi : σ[i]? = some (some (.ref a))) (hj : σ[j]? = some (some (.ref b))) (hd : H a = some (.dT kvs)) (g : GT H b gs) (e : valV kvs (keyI gs) = some v) (q : Q v H) : tGetG (tVar i) (tVar j) σ H Q :=
  ⟨_, hi, _, hj, a, b, gs, kvs, v, rfl, hd, rfl, g, e, q⟩
end Rv
/-! the mathematics of k36: steps between images -/
namespace RS
open RL
def St (a b : List Nat) : Prop := ∀ x ∈ b, ∃ i : Nat, a[i]? = some x ∧ b[i]? = some x
def Okn (n : Nat) (a : List Nat) : Prop := a.length = n ∧ ∀ x ∈ a, x < n
def Fw (n : Nat) : Nat → List Nat → Prop
  | 0, im => im = List.range n
  | m + 1, im => Okn n im ∧ ∃ b, Fw n m b ∧ St b im
def Bw (n : Nat) (g : List Nat) : Nat → List Nat → Prop
  | 0, im => im = g
  | m + 1, im => Okn n im ∧ ∃ r, Bw n g m r ∧ St im r
def Pt (n : Nat) : Nat → List Nat → List Nat → Prop
  | 0, a, b => a = b
  | m + 1, a, b => ∃ c, Okn n c ∧ St a c ∧ Pt n m c b
def Nw (n m : Nat) (im : List Nat) : Prop := Fw n m im ∧ ∀ j, j < m → ¬ Fw n j im
def Nb (n : Nat) (g : List Nat) (m : Nat) (im : List Nat) : Prop := Bw n g m im ∧ ∀ j, j < m → ¬ Bw n g j im
theorem St.refl (a : List Nat) : St a a := fun x hx => by
  obtain ⟨i, hi⟩ := List.getElem?_of_mem hx
  exact ⟨i, hi, hi⟩
theorem okn_home (n : Nat) : Okn n (List.range n) := ⟨List.length_range, fun x hx => List.mem_range.mp hx⟩
theorem Fw.ok {n : Nat} : ∀ {m : Nat} {im : List Nat}, Fw n m im → Okn n im
  | 0, _, h => by rw [show _ = List.range n from h]; exact okn_home n
  | _ + 1, _, h => h.1
theorem Bw.ok {n : Nat} {g : List Nat} (G : Okn n g) : ∀ {m : Nat} {im : List Nat}, Bw n g m im → Okn n im
  | 0, _, h => by rw [show _ = g from h]; exact G
  | _ + 1, _, h => h.1
theorem Fw.mono {n m : Nat} {im : List Nat} (h : Fw n m im) : Fw n (m + 1) im := ⟨h.ok, im, h, St.refl im⟩
theorem Fw.le {n m k : Nat} {im : List Nat} (h : Fw n m im) (l : m ≤ k) : Fw n k im := by
  induction l with
  | refl => exact h
  | step _ ih => exact ih.mono
theorem Bw.mono {n m : Nat} {g im : List Nat} (G : Okn n g) (h : Bw n g m im) : Bw n g (m + 1) im := ⟨h.ok G, im, h, St.refl im⟩
theorem Bw.le {n m k : Nat} {g im : List Nat} (G : Okn n g) (h : Bw n g m im) (l : m ≤ k) : Bw n g k im := by
  induction l with
  | refl => exact h
  | step _ ih => exact ih.mono G
theorem meet {n : Nat} {g : List Nat} (G : Okn n g) : ∀ (j m : Nat), (∃ x, Fw n m x ∧ Bw n g j x) → ∃ x, Fw n 0 x ∧ Bw n g (j + m) x
  | j, 0, h => h
  | j, m + 1, ⟨x, ⟨ox, b, hb, s⟩, h⟩ => by
    have := meet G (j + 1) m ⟨b, hb, hb.ok, x, h, s⟩
    rw [show j + (m + 1) = j + 1 + m by omega]
    exact this
theorem meet2 {n : Nat} {g : List Nat} (G : Okn n g) : ∀ (j m : Nat), (∃ x, Fw n m x ∧ Bw n g j x) → ∃ x, Fw n (m + j) x ∧ Bw n g 0 x
  | 0, m, h => h
  | j + 1, m, ⟨x, h, ⟨ox, r, hr, s⟩⟩ => by
    have := meet2 G j (m + 1) ⟨r, ⟨hr.ok G, x, h, s⟩, hr⟩
    rw [show m + (j + 1) = m + 1 + j by omega]
    exact this
/-- forth and back lead equally far -/
theorem fw_bw {n m : Nat} {g : List Nat} (G : Okn n g) : Fw n m g ↔ Bw n g m (List.range n) := by
  constructor
  · intro h
    obtain ⟨x, h1, h2⟩ := meet G 0 m ⟨g, h, rfl⟩
    rw [Nat.zero_add] at h2
    rw [← show x = List.range n from h1]
    exact h2
  · intro h
    obtain ⟨x, h1, h2⟩ := meet2 G m 0 ⟨_, rfl, h⟩
    rw [Nat.zero_add] at h1
    rw [← show x = g from h2]
    exact h1
/-- the next level forth -/
theorem nw_next {n m : Nat} {im : List Nat} : Nw n (m + 1) im ↔ Okn n im ∧ ¬ Fw n m im ∧ ∃ b, Nw n m b ∧ St b im := by
  constructor
  · rintro ⟨⟨o, b, hb, s⟩, no⟩
    refine ⟨o, no m (Nat.lt_succ_self m), b, ⟨hb, fun j hj k => ?_⟩, s⟩
    exact no (j + 1) (by omega) ⟨o, b, k, s⟩
  · rintro ⟨o, no, b, hb, s⟩
    exact ⟨⟨o, b, hb.1, s⟩, fun j hj k => no (k.le (by omega))⟩
theorem fw_next {n m : Nat} {im : List Nat} : Fw n (m + 1) im ↔ Fw n m im ∨ Nw n (m + 1) im := by
  constructor
  · intro h
    by_cases k : Fw n m im
    · exact .inl k
    · exact .inr ⟨h, fun j hj z => k (z.le (by omega))⟩
  · rintro (h | h)
    · exact h.mono
    · exact h.1
theorem nw_zero {n : Nat} {im : List Nat} : Nw n 0 im ↔ im = List.range n := ⟨fun h => h.1, fun h => ⟨h, fun j hj => absurd hj (Nat.not_lt_zero _)⟩⟩
theorem Fw.least {n : Nat} : ∀ {m : Nat} {im : List Nat}, Fw n m im → ∃ k, k ≤ m ∧ Nw n k im
  | 0, im, h => ⟨0, Nat.le_refl _, h, fun j hj => absurd hj (Nat.not_lt_zero _)⟩
  | m + 1, im, h => by
    rcases fw_next.mp h with k | k
    · obtain ⟨k, l, z⟩ := Fw.least k
      exact ⟨k, by omega, z⟩
    · exact ⟨m + 1, Nat.le_refl _, k⟩
theorem Nw.uniq {n j k : Nat} {im : List Nat} (a : Nw n j im) (b : Nw n k im) : j = k := by
  rcases Nat.lt_trichotomy j k with l | l | l
  · exact absurd a.1 (b.2 j l)
  · exact l
  · exact absurd b.1 (a.2 k l)
/-- the next level back -/
theorem nb_next {n m : Nat} {g im : List Nat} (G : Okn n g) : Nb n g (m + 1) im ↔ Okn n im ∧ ¬ Bw n g m im ∧ ∃ r, Nb n g m r ∧ St im r := by
  constructor
  · rintro ⟨⟨o, b, hb, s⟩, no⟩
    refine ⟨o, no m (Nat.lt_succ_self m), b, ⟨hb, fun j hj k => ?_⟩, s⟩
    exact no (j + 1) (by omega) ⟨o, b, k, s⟩
  · rintro ⟨o, no, b, hb, s⟩
    exact ⟨⟨o, b, hb.1, s⟩, fun j hj k => no (k.le G (by omega))⟩
theorem bw_next {n m : Nat} {g im : List Nat} (G : Okn n g) : Bw n g (m + 1) im ↔ Bw n g m im ∨ Nb n g (m + 1) im := by
  constructor
  · intro h
    by_cases k : Bw n g m im
    · exact .inl k
    · exact .inr ⟨h, fun j hj z => k (z.le G (by omega))⟩
  · rintro (h | h)
    · exact h.mono G
    · exact h.1
/-- a level back that is empty: nothing more -/
theorem bw_done {n m : Nat} {g : List Nat} (G : Okn n g) (e : ∀ im, ¬ Nb n g (m + 1) im) : ∀ j im, Bw n g j im → Bw n g m im := by
  have st : ∀ im, Bw n g (m + 1) im → Bw n g m im := fun im h => (bw_next G).mp h |>.resolve_right (e im)
  intro j
  induction j with
  | zero => exact fun im h => Bw.le G h (Nat.zero_le _)
  | succ j ih =>
    rintro im ⟨o, r, hr, s⟩
    exact st im ⟨o, r, ih r hr, s⟩
/-- a number that is missing -/
theorem Fw.home_or {n : Nat} : ∀ {m : Nat} {im : List Nat}, Fw n m im → im = List.range n ∨ ∃ v, v < n ∧ v ∉ im
  | 0, im, h => .inl h
  | m + 1, im, ⟨o, b, hb, s⟩ => by
    rcases Fw.home_or hb with e | ⟨v, hv, nv⟩
    · subst e
      have at_ : ∀ x ∈ im, im[x]? = some x := fun x hx => by
        obtain ⟨i, h1, h2⟩ := s x hx
        have hi : i < n := by have := (List.getElem?_eq_some_iff.mp h1).1; rwa [List.length_range] at this
        rw [List.getElem?_range hi] at h1
        cases h1
        exact h2
      by_cases z : im = List.range n
      · exact .inl z
      · right
        apply Classical.byContradiction
        intro no
        refine z (List.ext_getElem? fun j => ?_)
        by_cases hj : j < n
        · rw [List.getElem?_range hj]
          have : j ∈ im := Classical.byContradiction fun k => no ⟨j, hj, k⟩
          exact at_ j this
        · rw [List.getElem?_eq_none (by rw [o.1]; omega), List.getElem?_eq_none (by rw [List.length_range]; omega)]
    · refine .inr ⟨v, hv, fun k => nv ?_⟩
      obtain ⟨i, h1, _⟩ := s v k
      exact List.mem_of_getElem? h1
/-! copies -/
theorem cp_len {im : List Nat} {t s : Nat} : (cp im t s).length = im.length := List.length_set ..
theorem st_cp {im : List Nat} {t s : Nat} (ht : t < im.length) (hs : s < im.length) : St im (cp im t s) := fun x hx => by
  have es : im[s]? = some (im.getD s 0) := by rw [List.getD_eq_getElem?_getD, List.getElem?_eq_getElem hs]; rfl
  obtain ⟨i, hi⟩ := List.getElem?_of_mem hx
  unfold cp at hi ⊢
  by_cases z : t = i
  · subst z
    rw [List.getElem?_set_self ht] at hi
    cases hi
    by_cases y : t = s
    · subst y
      exact ⟨t, es, List.getElem?_set_self ht⟩
    · exact ⟨s, es, by rw [List.getElem?_set_ne y]; exact es⟩
  · rw [List.getElem?_set_ne z] at hi
    exact ⟨i, hi, by rw [List.getElem?_set_ne z]; exact hi⟩
theorem okn_cp {n : Nat} {im : List Nat} {t s : Nat} (o : Okn n im) (hs : s < n) : Okn n (cp im t s) := ⟨by rw [cp_len]; exact o.1, fun x hx => by
  rcases List.mem_or_eq_of_mem_set hx with h | h
  · exact o.2 x h
  · rw [h, List.getD_eq_getElem?_getD, List.getElem?_eq_getElem (by rw [o.1]; exact hs)]
    exact o.2 _ (List.getElem_mem _)⟩
theorem reach_fw {n : Nat} : ∀ {k : Nat} {im : List Nat}, Reach n k im → Fw n k im
  | 0, im, h => by
    obtain ⟨qs, l, _, e⟩ := h
    have : qs = [] := List.eq_nil_of_length_eq_zero l
    subst this
    rw [e]
    exact List.map_id _
  | k + 1, im, h => by
    obtain ⟨im0, t, s, h0, ht, hs, rfl⟩ := h.prev
    have f := reach_fw h0
    have o := f.ok
    exact ⟨okn_cp o hs, im0, f, st_cp (by rw [o.1]; exact ht) (by rw [o.1]; exact hs)⟩
/-! logs -/
def rn (im : List Nat) (qs : List (Nat × Nat)) : List Nat := qs.foldl (fun a q => cp a q.1 q.2) im
theorem rn_app (im : List Nat) (a b : List (Nat × Nat)) : rn im (a ++ b) = rn (rn im a) b := List.foldl_append ..
theorem rn_cons (im : List Nat) (q : Nat × Nat) (b : List (Nat × Nat)) : rn im (q :: b) = rn (cp im q.1 q.2) b := rfl
theorem rn_snoc (im : List Nat) (a : List (Nat × Nat)) (q : Nat × Nat) : rn im (a ++ [q]) = cp (rn im a) q.1 q.2 := by rw [rn_app]; rfl
theorem okn_rn {n : Nat} : ∀ {qs : List (Nat × Nat)} {im : List Nat}, Okn n im → (∀ q ∈ qs, q.1 < n ∧ q.2 < n) → Okn n (rn im qs)
  | [], im, o, _ => o
  | q :: r, im, o, h => okn_rn (qs := r) (okn_cp o (h q (List.mem_cons_self ..)).2) fun p hp => h p (List.mem_cons_of_mem _ hp)
theorem rn_map {n : Nat} : ∀ {qs : List (Nat × Nat)}, (∀ q ∈ qs, q.1 < n ∧ q.2 < n) → ∃ f : Nat → Nat, (∀ b, b < n → f b < n) ∧ ∀ im : List Nat, im.length = n → ∀ b, b < n → (rn im qs)[b]? = some (im.getD (f b) 0)
  | [], _ => ⟨id, fun _ h => h, fun im l b hb => by
    show im[b]? = some (im.getD b 0)
    rw [List.getD_eq_getElem?_getD, List.getElem?_eq_getElem (by omega)]
    rfl⟩
  | q :: r, h => by
    obtain ⟨f, f1, f2⟩ := rn_map (qs := r) fun p hp => h p (List.mem_cons_of_mem _ hp)
    have hq := h q (List.mem_cons_self ..)
    refine ⟨fun b => if f b = q.1 then q.2 else f b, fun b hb => ?_, fun im l b hb => ?_⟩
    · show (if f b = q.1 then q.2 else f b) < n
      split
      · exact hq.2
      · exact f1 b hb
    · rw [rn_cons, f2 _ (by rw [cp_len]; exact l) b hb]
      show some ((cp im q.1 q.2).getD (f b) 0) = some (im.getD (if f b = q.1 then q.2 else f b) 0)
      congr 1
      unfold cp
      rw [List.getD_eq_getElem?_getD, List.getD_eq_getElem?_getD]
      by_cases z : f b = q.1
      · rw [if_pos z, z, List.getElem?_set_self (by omega), List.getD_eq_getElem?_getD]
        rfl
      · rw [if_neg z, List.getElem?_set_ne (Ne.symm z), List.getD_eq_getElem?_getD]
/-- a piece that leads from its own end to its end is a step -/
theorem piece_st {n : Nat} {qs : List (Nat × Nat)} {im : List Nat} (o : Okn n im) (h : ∀ q ∈ qs, q.1 < n ∧ q.2 < n) (e : rn (rn im qs) qs = rn im qs) : St im (rn im qs) := fun x hx => by
  obtain ⟨f, f1, f2⟩ := rn_map h
  have o2 := okn_rn o h
  obtain ⟨b, hb⟩ := List.getElem?_of_mem hx
  have lb : b < n := by have := (List.getElem?_eq_some_iff.mp hb).1; rwa [o2.1] at this
  have e1 := f2 im o.1 b lb
  have e2 := f2 (rn im qs) o2.1 b lb
  rw [hb] at e1
  rw [e, hb] at e2
  have e1 := Option.some.inj e1
  have e2 := Option.some.inj e2
  refine ⟨f b, ?_, ?_⟩
  · rw [e1, List.getD_eq_getElem?_getD, List.getElem?_eq_getElem (by rw [o.1]; exact f1 b lb)]
    rfl
  · rw [e2, List.getD_eq_getElem?_getD, List.getElem?_eq_getElem (by rw [o2.1]; exact f1 b lb)]
    rfl
theorem Pt.fw {n : Nat} : ∀ {k m : Nat} {a b : List Nat}, Fw n m a → Pt n k a b → Fw n (m + k) b
  | 0, m, a, b, h, e => by rw [← show a = b from e]; exact h
  | k + 1, m, a, b, h, ⟨c, o, s, p⟩ => by
    rw [show m + (k + 1) = m + 1 + k by omega]
    exact Pt.fw (m := m + 1) ⟨o, a, h, s⟩ p
/-- the images of a log, by single copies -/
theorem pt_log {n : Nat} {qs : List (Nat × Nat)} (h : ∀ q ∈ qs, q.1 < n ∧ q.2 < n) : ∀ (k b : Nat), b + k = qs.length → Pt n k (rn (List.range n) (qs.take b)) (rn (List.range n) (qs.take qs.length)) := by
  intro k
  induction k with
  | zero => intro b hb; rw [show b = qs.length by omega]; exact rfl
  | succ k ih =>
    intro b hb
    have lb : b < qs.length := by omega
    have e : qs.take (b + 1) = qs.take b ++ [qs[b]] := by rw [List.take_succ, List.getElem?_eq_getElem lb]; rfl
    have ok := h _ (List.getElem_mem lb)
    have o := okn_rn (okn_home n) (qs := qs.take b) fun q hq => h q (List.mem_of_mem_take hq)
    refine ⟨rn (List.range n) (qs.take (b + 1)), ?_, ?_, ih (b + 1) (by omega)⟩
    · rw [e, rn_snoc]
      exact okn_cp o ok.2
    · rw [e, rn_snoc]
      exact st_cp (by rw [o.1]; exact ok.1) (by rw [o.1]; exact ok.2)
theorem rn_cut {qs : List (Nat × Nat)} {b e : Nat} (l : b ≤ e) : rn (rn (List.range n) (qs.take b)) ((qs.drop b).take (e - b)) = rn (List.range n) (qs.take e) := by
  rw [← rn_app]
  congr 1
  rw [← List.take_add]
  congr 1
  omega
/-! all images -/
def ev (n : Nat) : Nat → List (List Nat)
  | 0 => [[]]
  | k + 1 => (ev n k).flatMap fun r => (List.range n).map fun x => r ++ [x]
theorem mem_ev {n : Nat} : ∀ {k : Nat} {im : List Nat}, im ∈ ev n k ↔ im.length = k ∧ ∀ x ∈ im, x < n
  | 0, im => by
    unfold ev
    rw [List.mem_singleton]
    exact ⟨fun e => by subst e; exact ⟨rfl, fun x hx => by cases hx⟩, fun h => List.eq_nil_of_length_eq_zero h.1⟩
  | k + 1, im => by
    unfold ev
    rw [List.mem_flatMap]
    constructor
    · rintro ⟨r, hr, hi⟩
      obtain ⟨x, hx, rfl⟩ := List.mem_map.mp hi
      obtain ⟨l, b⟩ := mem_ev.mp hr
      refine ⟨by rw [List.length_append, l]; rfl, fun y hy => ?_⟩
      rcases List.mem_append.mp hy with z | z
      · exact b y z
      · rw [List.mem_singleton.mp z]; exact List.mem_range.mp hx
    · rintro ⟨l, b⟩
      have ne : im ≠ [] := fun z => by rw [z] at l; cases l
      have z := List.dropLast_concat_getLast ne
      refine ⟨im.dropLast, mem_ev.mpr ⟨by rw [List.length_dropLast, l]; rfl, fun x hx => b x (List.dropLast_subset im hx)⟩, List.mem_map.mpr ⟨im.getLast ne, List.mem_range.mpr (b _ (List.getLast_mem ne)), z⟩⟩
theorem ev_len {n : Nat} : ∀ k : Nat, (ev n k).length = n ^ k
  | 0 => rfl
  | k + 1 => by
    unfold ev
    rw [List.length_flatMap]
    have : ((ev n k).map fun r => ((List.range n).map fun x => r ++ [x]).length) = (ev n k).map fun _ => n := List.map_congr_left fun r _ => by rw [List.length_map, List.length_range]
    rw [this]
    have s : ∀ l : List (List Nat), (l.map fun _ => n).sum = l.length * n := by
      intro l
      induction l with
      | nil => simp
      | cons a r ih => rw [List.map_cons, List.sum_cons, ih, List.length_cons, Nat.add_mul]; omega
    rw [s, ev_len k, Nat.pow_succ]
theorem ev_le {n k : Nat} (h : n ≤ 4) (hk : k ≤ 4) : (ev n k).length ≤ 256 := by
  rw [ev_len]
  calc n ^ k ≤ 4 ^ k := Nat.pow_le_pow_left h k
    _ ≤ 4 ^ 4 := Nat.pow_le_pow_right (by decide) hk
    _ = 256 := by decide
theorem okn_ev {n : Nat} {im : List Nat} : im ∈ ev n n ↔ Okn n im := mem_ev
end RS
/-! for k36: dicts of images, list(d), zip of two tuples, rows by two clauses -/
namespace Rv
open PySem PySem.Spec PyProof.Rows L2 RL RS
def Ds (H : Hp) (d : Addr) (ks : List (List Nat)) : Prop := Dk H d (ks.map niz)
section
variable {H H' : Hp} {d b l : Addr} {ks : List (List Nat)} {x : List Nat} {Q : VK} {R : Hp → Prop} {v : V} {o : HO}
theorem Ds.same (k : Ds H d ks) (S : Same H H') : Ds H' d ks := Dk.same k S
theorem Ds.mut (k : Ds H d ks) (ne : d ≠ l) : Ds (upd H l o) d ks := Dk.mut k ne
theorem Ds.ex (k : Ds H d ks) : ∃ kvs, H d = some (.dT kvs) := by obtain ⟨kvs, h, _⟩ := Dk.ex k; exact ⟨kvs, h⟩
theorem Ds.nd (k : Ds H d ks) : ks.Nodup := (List.pairwise_map.mp (Dk.nd k)).imp fun h e => h (by rw [e])
theorem mem_niz2 : niz x ∈ ks.map niz ↔ x ∈ ks := by
  rw [List.mem_map]
  exact ⟨fun ⟨y, hy, e⟩ => niz_inj e ▸ hy, fun hx => ⟨x, hx, rfl⟩⟩
theorem rd_dsN (k : Ds H d ks) (hb : H b = some (.tup (nvs x))) (q : Q (.bl (decide (x ∉ ks))) H) : DN (.ref d) (.ref b) H Q := by
  refine rd_DN k (es := niz x) hb fun c hc => ?_
  have : c = decide (x ∉ ks) := by
    rw [Bool.eq_iff_iff, decide_eq_true_eq, hc]
    exact not_congr mem_niz2
  rw [this]
  exact q
theorem rd_dsP (k : Ds H d ks) (hb : H b = some (.tup (nvs x))) (hl : ks.length < 1000) (q : ∀ H2 ks2, (∃ kvs, H2 = upd H d (.dT kvs)) → Ds H2 d ks2 → (∀ y, y ∈ ks2 ↔ y ∈ ks ∨ y = x) → R H2) : DP (.ref d) (.ref b) v H R := by
  refine rd_DPT k (es := niz x) hb (by rw [List.length_map]; exact hl) fun H2 ls2 e D2 h1 h2 => ?_
  by_cases m : x ∈ ks
  · have e2 := h1 (mem_niz2.mpr m)
    rw [e2] at D2
    exact q H2 ks e D2 fun y => ⟨.inl, fun z => z.elim id fun w => w ▸ m⟩
  · have e2 := h2 (fun z => m (mem_niz2.mp z))
    rw [e2] at D2
    refine q H2 (ks ++ [x]) e ?_ fun y => by rw [List.mem_append, List.mem_singleton]
    show Dk H2 d ((ks ++ [x]).map niz)
    rw [List.map_append]
    exact D2
def D1f (d : Addr) (v : V) (Q : VK) : VK := fun x H2 => ∃ (b : Addr) (key : List Key), x = .ref b ∧ H2 b = some (.tup (key.map kV)) ∧ H2 d = some (.dT []) ∧ Q (.ref d) (upd H2 d (.dT (putK [] key v)))
theorem rd_d1s {σ : L2.St} {tk : TE} (q : ∀ d H0, H d = none → Same H H0 → H0 d = some (.dT []) → tk σ H0 fun x H1 => D1f d v Q x H1) : tD1 tk (tC v) σ H Q := fun d nd => q d _ nd (same_new (Same.refl _) nd) upd_same
theorem rd_D1f (hb : H b = some (.tup (nvs x))) (hd : H d = some (.dT [])) (q : ∀ H3, (∃ kvs, H3 = upd H d (.dT kvs)) → Ds H3 d [x] → Q (.ref d) H3) : D1f d v Q (.ref b) H := by
  refine ⟨b, keyI (niz x), rfl, by rw [keyI_kV]; exact hb, hd, q _ ⟨_, rfl⟩ ⟨⟨_, upd_same, ?_⟩, by simp⟩⟩
  rw [putK_new _ rfl]
  rfl
/-! list(d) -/
def rLstK : List V → Hp → VK → Prop := fun xs H Q => ∃ d kvs, xs = [V.ref d] ∧ Rd H d (.dT kvs) ∧ ∀ p bs, H p = none → IsKeys H kvs bs → Q (.ref p) (upd H p (.lst (bs.map V.ref)))
theorem call_lstK {X : Cx} (hc : X.calm = true) : CallR X (.type "list") rLstK := call_list_dT hc
theorem keys_rows : ∀ {kvs : List (List Key × V)} {bs : List Addr} {ks : List (List Nat)}, IsKeys H kvs bs → kvs.map Prod.fst = (ks.map niz).map ky → NRows H bs ks
  | [], bs, ks, h, e => by
    cases h
    cases ks with
    | nil => exact TupsAt.nil
    | cons a r => cases e
  | kv :: r, bs, ks, h, e => by
    cases h with
    | cons h1 t =>
      cases ks with
      | nil => cases e
      | cons a ks =>
        rw [List.map_cons, List.map_cons, List.map_cons] at e
        obtain ⟨e1, e2⟩ := List.cons.inj e
        have z := keys_rows (kvs := r) t e2
        refine ⟨by rw [List.map_cons, List.length_cons, List.length_cons, z.1], fun i vs q => ?_⟩
        cases i with
        | zero =>
          rw [List.map_cons] at q
          cases q
          refine ⟨_, rfl, ?_⟩
          rw [e1, ky_kV] at h1
          exact h1
        | succ i => exact z.2 i vs q
theorem rd_lstK {p : Addr} (k : Ds H p ks) (q : ∀ H2 l bs, Same H H2 → H l = none → H2 l = some (.lst (bs.map V.ref)) → NRows H2 bs ks → Q (.ref l) H2) : rLstK [.ref p] H Q := by
  obtain ⟨kvs, h, e⟩ := Dk.ex k
  exact ⟨p, kvs, rfl, .of h, fun l bs nl ik => q _ l bs (same_new (Same.refl _) nl) nl upd_same ((keys_rows ik e).same (same_new (Same.refl _) nl))⟩
end
/-! zip of two tuples -/
section
variable {K : PySem.W.Frag} {σ : L2.St} {H : Hp} {a b : Addr} {xs ys : List V} {R : It → Hp → Prop}
def ZpA (K : PySem.W.Frag) (R : It → Hp → Prop) (vs : List V) (H1 : Hp) : Prop := ∃ a b xs ys, vs = [.ref a, .ref b] ∧ ((SqL K H1 a xs ∧ SqL K H1 b ys ∧ R (Itz K a b) H1) ∨ (SqT K H1 a xs ∧ SqT K H1 b ys ∧ R (RZ.ItzT K a b) H1))
theorem pi_zpA {X : Cx} {e e2 : Expr} {ta : TA} {p pos tpos : Pos} {elts : List Expr} {kk : Nat} (hK : X.K = K) (hg : Gl X "zip") (hm : X.mg "zip" = none) (ha : PA X [e, e2] ta)
    (hs : starEach [e, e2] X.env = (false, eval e X.env) :: starEach [e2] X.env := by rfl) (hpl : (backTo pos (starEach [e2] X.env)).any (·.1) = false := by rfl) :
    PI X (.Tuple elts kk tpos) (.Call (.Name "zip" p) [e, e2] [] pos) (RZ.iZipA K ta) := by
  subst hK
  exact RZ.pi_zipA hg hm ha hs hpl
theorem rd_iZpA {ta : TA} (q : ta σ H fun vs H1 => ZpA K R vs H1) : RZ.iZipA K ta σ H R := q
theorem rd_ZpT (h : H a = some (.tup xs)) (h2 : H b = some (.tup ys)) (q : R (RZ.ItzT K a b) H) : ZpA K R [.ref a, .ref b] H := ⟨a, b, xs, ys, rfl, .inr ⟨.of h, .of h2, q⟩⟩
theorem walk_zipT {n : Nat} (hn : n = min xs.length ys.length) : Walk (RZ.ItzT K a b) n (fun H => SqT K H a xs ∧ SqT K H b ys) (YPair (fun i => xs[i]?) (fun i => ys[i]?)) := by
  subst hn
  refine ⟨fun i _ hi q => ?_, fun _ q => ⟨xs, ys, q.1, q.2, by omega⟩, fun i H v H' _ q y => ?_⟩
  · have h1 : i < xs.length := by omega
    have h2 : i < ys.length := by omega
    exact ⟨xs, ys, xs[i], ys[i], q.1, q.2, by simp [h1], by simp [h2]⟩
  · obtain ⟨T, x, y, h1, h2, h3, h4, h5⟩ := y
    exact ⟨T, x, y, h1, h2, h3, h4 _ q.1, h5 _ q.2⟩
end
/-! a comprehension over rows and numbers -/
def evc (n : Nat) (L : List (List Nat)) : List (List Nat) := L.flatMap fun r => (List.range n).map fun x => r ++ [x]
theorem evc_len (n : Nat) : ∀ L : List (List Nat), (evc n L).length = L.length * n
  | [] => by simp [evc]
  | a :: r => by
    have := evc_len n r
    unfold evc at this ⊢
    rw [List.flatMap_cons, List.length_append, this, List.length_map, List.length_range, List.length_cons, Nat.add_mul]
    omega
theorem evc_snoc (n : Nat) (L : List (List Nat)) (r : List Nat) : evc n (L ++ [r]) = evc n L ++ (List.range n).map fun x => r ++ [x] := by
  unfold evc
  rw [List.flatMap_append]
  simp
theorem ev_evc (n k : Nat) : ev n (k + 1) = evc n (ev n k) := rfl
theorem rng_snoc (r : List Nat) (t : Nat) : ((List.range (t + 1)).map fun x => r ++ [x]) = ((List.range t).map fun x => r ++ [x]) ++ [r ++ [t]] := by
  rw [List.range_succ, List.map_append]
  rfl
theorem lc2_rng {K : PySem.W.Frag} {n : Nat} {tl : Addr} {bs : List Addr} {L : List (List Nat)} {g g1 : TG} {wi1 : TI} {te : TE} {vs vs1 : List Nat} {σ : L2.St} {H0 : Hp} {Q : VK} (s2 : Addr → L2.St) (s3 : Addr → V → L2.St)
    (hl : H0 tl = some (.lst (bs.map V.ref))) (t : NRows H0 bs L) (sm : (evc n L).length < 1000)
    (w2 : ∀ b, wipe (s2 b) vs = wipe σ vs) (w3 : ∀ b v, wipe (s3 b v) vs1 = wipe (s2 b) vs1)
    (hg : ∀ b H (R : L2.St → Hp → Prop), R (s2 b) H → g (.ref b) (wipe σ vs) H R) (hw : ∀ b H (R : It → Hp → Prop), R (Itr 0 n) H → wi1 (s2 b) H R)
    (hg1 : ∀ b v H (R : L2.St → Hp → Prop), R (s3 b v) H → g1 v (wipe (s2 b) vs1) H R)
    (ht : ∀ b r (x : Nat) H (R : VK), r ∈ L → H b = some (.tup (nvs r)) → (∀ H2 p, Same H H2 → H2 p = some (.tup (nvs (r ++ [x]))) → R (.ref p) H2) → te (s3 b (.int (x : Int))) H R)
    (q : ∀ H2 D cs, Same H0 H2 → H0 D = none → H2 D = some (.lst (cs.map V.ref)) → NRows H2 cs (evc n L) → Q (.ref D) H2) : Lc2 (Itl K tl) g tYes wi1 g1 tYes te vs vs1 σ H0 Q := by
  intro D nD
  have lb := NRows.len t
  have le : ∀ i, i < L.length → ∀ j, j < n → i * n + j < (evc n L).length := fun i hi j hj => by
    rw [evc_len]
    have : (i + 1) * n ≤ L.length * n := Nat.mul_le_mul_right n hi
    rw [Nat.add_mul] at this
    omega
  refine ⟨fun i m H => Same H0 H ∧ (∃ cs, H D = some (.lst (cs.map V.ref)) ∧ NRows H cs (evc n (L.take i))) ∧ m + i = L.length, ⟨L.length, same_new (Same.refl _) nD, ⟨[], upd_same, by rw [List.take_zero]; exact TupsAt.nil⟩, rfl⟩, ?_⟩
  rintro i m H ⟨S, ⟨cs, hD, tc⟩, hm⟩
  by_cases hi : i < L.length
  · refine .inr ⟨(walk_list (K := K) (a := tl) (xs := bs.map V.ref)).goes i H (by rw [List.length_map]; omega) (SqL.of (S _ _ hl)), fun H' => Same H0 H' ∧ ∃ cs, H' D = some (.lst (cs.map V.ref)) ∧ NRows H' cs (evc n (L.take (i + 1))), fun H' z => ⟨m - 1, by omega, z.1, z.2, by omega⟩, fun x H' y => ?_⟩
    obtain ⟨rfl, ex⟩ := (walk_list (K := K) (a := tl) (xs := bs.map V.ref)).yields i H x H' (by rw [List.length_map]; omega) (SqL.of (S _ _ hl)) y
    have er : L[i]? = some L[i] := List.getElem?_eq_getElem hi
    obtain ⟨b, e1, e2⟩ := NRows.at (t.same S) er
    rw [List.getElem?_map, e1] at ex
    cases ex
    have tk : L.take (i + 1) = L.take i ++ [L[i]] := by rw [List.take_succ, er]; rfl
    refine hg b _ _ ⟨w2 b, ?_⟩
    unfold tYes
    dsimp only
    rw [if_pos rfl]
    refine hw b H' _ ?_
    refine ⟨fun j k G => Same H0 G ∧ (∃ cs, G D = some (.lst (cs.map V.ref)) ∧ NRows G cs (evc n (L.take i) ++ (List.range j).map fun x => L[i] ++ [x])) ∧ G b = some (.tup (nvs L[i])) ∧ j ≤ n ∧ k + j = n, ⟨n, S, ⟨cs, hD, by rw [List.range_zero, List.map_nil, List.append_nil]; exact tc⟩, e2, Nat.zero_le _, rfl⟩, ?_⟩
    rintro j k G ⟨SG, ⟨cs2, hDG, tg⟩, hbG, hjn, hk⟩
    by_cases hj : j < n
    · refine .inr ⟨(walk_range (lo := 0) (n := n)).goes j G hj True.intro, fun H5 => Same H0 H5 ∧ (∃ cs, H5 D = some (.lst (cs.map V.ref)) ∧ NRows H5 cs (evc n (L.take i) ++ (List.range (j + 1)).map fun x => L[i] ++ [x])) ∧ H5 b = some (.tup (nvs L[i])), fun H5 z => ⟨k - 1, by omega, z.1, z.2.1, z.2.2, by omega, by omega⟩, fun x H5 y5 => ?_⟩
      obtain ⟨rfl, ex5⟩ := (walk_range (lo := 0) (n := n)).yields j G x H5 hj True.intro y5
      have ex6 : x = V.int (j : Int) := by rw [ex5]; show V.int (0 + (j : Int)) = _; rw [Int.zero_add]
      subst ex6
      refine hg1 b _ _ _ ⟨w3 b _, ?_⟩
      try unfold tYes
      try dsimp only
      rw [if_pos rfl]
      refine ht b L[i] j _ _ (List.getElem_mem hi) hbG fun H7 p S7 hp => ?_
      have hD7 := S7 _ _ hDG
      have lc := NRows.len tg
      rw [List.length_append, evc_len, List.length_map, List.length_range, List.length_take, Nat.min_eq_left (by omega)] at lc
      have l3 := le i hi j hj
      refine ⟨_, hD7, by rw [List.length_map, sizeLine_eq]; omega, same_mut (SG.trans S7) nD, ⟨cs2 ++ [p], by rw [upd_same, List.map_append]; rfl, ?_⟩, ?_⟩
      · rw [rng_snoc, ← List.append_assoc]
        exact ((tg.same S7).snoc hp).kt (Kt.mut hD7)
      · rw [upd_ne (fun e => by rw [e, hDG] at hbG; cases hbG)]
        exact S7 _ _ hbG
    · refine .inl ⟨?_, SG, cs2, hDG, ?_⟩
      · have := (walk_range (lo := 0) (n := n)).stops G True.intro
        rw [show j = n by omega]
        exact this
      · rw [tk, evc_snoc]
        rw [show j = n by omega] at tg
        exact tg
  · refine .inl ⟨?_, ?_⟩
    · have := (walk_list (K := K) (a := tl) (xs := bs.map V.ref)).stops H (SqL.of (S _ _ hl))
      rw [List.length_map, lb] at this
      rw [show i = L.length by omega]
      exact this
    · rw [List.take_of_length_le (by omega)] at tc
      exact q H D cs S nD hD tc
end Rv
/-! for k36: equality of images, common places, filters, what a helper leaves -/
namespace Rv
open PySem PySem.Spec PyProof.Rows L2 RL RS
theorem eqv_intsT : ∀ (a b : List Int), PyData.eqv (.tuple (a.map PyData.int)) (.tuple (b.map PyData.int)) = decide (a = b)
  | [], [] => rfl
  | [], _ :: _ => rfl
  | _ :: _, [] => rfl
  | x :: r, y :: t => by
    have ih := eqv_intsT r t
    have e : PyData.eqv (.tuple ((x :: r).map PyData.int)) (.tuple ((y :: t).map PyData.int)) = (decide (x = y) && PyData.eqv (.tuple (r.map PyData.int)) (.tuple (t.map PyData.int))) := rfl
    rw [e, ih, Bool.eq_iff_iff, Bool.and_eq_true, decide_eq_true_eq, decide_eq_true_eq, decide_eq_true_eq, List.cons.injEq]
theorem shT (xs : List Int) : SeqAt.shaped (.tuple (xs.map PyData.int)) = true := by
  obtain ⟨a1, a2⟩ := lay_ints xs
  unfold SeqAt.shaped
  rw [Bool.and_eq_true]
  refine ⟨a1, decide_eq_true ?_⟩
  show PyData.depthAll (xs.map PyData.int) + 1 ≤ 64
  omega
theorem rd_eqT {K : PySem.W.Frag} {H : Hp} {Q : VK} {p p2 : Addr} {a b : List Nat} (h : H p = some (.tup (nvs a))) (h2 : H p2 = some (.tup (nvs b))) (q : Q (.bl (decide (a = b))) H) : rEqD K (.ref p) (.ref p2) H Q := by
  refine ⟨_, _, .tup (SqT.of h) (dp_ints (niz a)), .tup (SqT.of h2) (dp_ints (niz b)), shT _, shT _, ?_⟩
  rw [eqv_intsT]
  have : decide (niz a = niz b) = decide (a = b) := by
    rw [Bool.eq_iff_iff, decide_eq_true_eq, decide_eq_true_eq]
    exact ⟨niz_inj, fun e => by rw [e]⟩
  rw [this]
  exact q
theorem rd_neT {K : PySem.W.Frag} {H : Hp} {Q : VK} {p p2 : Addr} {a b : List Nat} (h : H p = some (.tup (nvs a))) (h2 : H p2 = some (.tup (nvs b))) (q : Q (.bl (!decide (a = b))) H) : rNeD K (.ref p) (.ref p2) H Q := by
  refine ⟨_, _, .tup (SqT.of h) (dp_ints (niz a)), .tup (SqT.of h2) (dp_ints (niz b)), shT _, shT _, ?_⟩
  rw [eqv_intsT]
  have : decide (niz a = niz b) = decide (a = b) := by
    rw [Bool.eq_iff_iff, decide_eq_true_eq, decide_eq_true_eq]
    exact ⟨niz_inj, fun e => by rw [e]⟩
  rw [this]
  exact q
/-! common places -/
def kp (a b : List Nat) (i : Nat) : List Nat := ((List.range i).filter fun j => decide (a.getD j 0 = b.getD j 0)).map fun j => b.getD j 0
theorem kp_next (a b : List Nat) (i : Nat) : kp a b (i + 1) = kp a b i ++ if a.getD i 0 = b.getD i 0 then [b.getD i 0] else [] := by
  unfold kp
  rw [List.range_succ, List.filter_append, List.map_append]
  congr 1
  by_cases z : a.getD i 0 = b.getD i 0
  · rw [if_pos z, List.filter_cons, if_pos (decide_eq_true z)]
    rfl
  · rw [if_neg z, List.filter_cons, if_neg (by rw [decide_eq_false z]; exact Bool.false_ne_true)]
    rfl
theorem kp_len (a b : List Nat) (i : Nat) : (kp a b i).length ≤ i := by
  unfold kp
  rw [List.length_map]
  have := List.length_filter_le (fun j => decide (a.getD j 0 = b.getD j 0)) (List.range i)
  rwa [List.length_range] at this
theorem getD_at {a : List Nat} {i : Nat} (h : i < a.length) : a[i]? = some (a.getD i 0) := by rw [List.getD_eq_getElem?_getD, List.getElem?_eq_getElem h]; rfl
theorem mem_kp {a b : List Nat} {n x : Nat} (la : a.length = n) (lb : b.length = n) : x ∈ kp a b n ↔ ∃ i : Nat, a[i]? = some x ∧ b[i]? = some x := by
  unfold kp
  rw [List.mem_map]
  constructor
  · rintro ⟨j, hj, e⟩
    rw [List.mem_filter, List.mem_range, decide_eq_true_eq] at hj
    refine ⟨j, ?_, ?_⟩
    · rw [getD_at (by omega), hj.2, e]
    · rw [getD_at (by omega), e]
  · rintro ⟨i, h1, h2⟩
    have hi := (List.getElem?_eq_some_iff.mp h1).1
    refine ⟨i, ?_, ?_⟩
    · rw [List.mem_filter, List.mem_range, decide_eq_true_eq, List.getD_eq_getElem?_getD, List.getD_eq_getElem?_getD, h1, h2]
      exact ⟨by omega, rfl⟩
    · rw [List.getD_eq_getElem?_getD, h2]
      rfl
theorem st_kp {a b : List Nat} {n : Nat} (la : a.length = n) (lb : b.length = n) : St a b ↔ ∀ x ∈ b, x ∈ kp a b n :=
  ⟨fun h x hx => (mem_kp la lb).mpr (h x hx), fun h x hx => (mem_kp la lb).mp (h x hx)⟩
/-! filters -/
noncomputable def cd (p : Prop) : Bool := @decide p (Classical.propDecidable p)
theorem cd_iff {p : Prop} : cd p = true ↔ p := @decide_eq_true_iff p (Classical.propDecidable p)
theorem cd_t {p : Prop} (h : p) : cd p = true := cd_iff.mpr h
theorem cd_f {p : Prop} (h : ¬ p) : cd p = false := Bool.eq_false_iff.mpr fun z => h (cd_iff.mp z)
noncomputable def flt (P : List Nat → Prop) (L : List (List Nat)) : List (List Nat) := L.filter fun x => cd (P x)
theorem mem_flt {P : List Nat → Prop} {L : List (List Nat)} {x : List Nat} : x ∈ flt P L ↔ x ∈ L ∧ P x := by
  unfold flt
  rw [List.mem_filter, cd_iff]
theorem flt_yes {P : List Nat → Prop} {L : List (List Nat)} {i : Nat} {r : List Nat} (e : L[i]? = some r) (h : P r) : flt P (L.take (i + 1)) = flt P (L.take i) ++ [r] := by
  unfold flt
  rw [List.take_succ, e, List.filter_append]
  congr 1
  show List.filter _ [r] = [r]
  rw [List.filter_cons, if_pos (cd_t h)]
  rfl
theorem flt_no {P : List Nat → Prop} {L : List (List Nat)} {i : Nat} {r : List Nat} (e : L[i]? = some r) (h : ¬ P r) : flt P (L.take (i + 1)) = flt P (L.take i) := by
  unfold flt
  rw [List.take_succ, e, List.filter_append]
  show _ ++ List.filter _ [r] = _
  rw [List.filter_cons, if_neg (by rw [cd_f h]; exact Bool.false_ne_true), List.filter_nil, List.append_nil]
theorem flt_len (P : List Nat → Prop) (L : List (List Nat)) : (flt P L).length ≤ L.length := List.length_filter_le ..
theorem flt_lt {P : List Nat → Prop} {L : List (List Nat)} {x : List Nat} (hx : x ∈ L) (h : ¬ P x) : (flt P L).length < L.length := by
  unfold flt
  refine List.length_filter_lt_length_iff_exists.mpr ⟨x, hx, ?_⟩
  rw [cd_f h]
  exact Bool.false_ne_true
/-- a comprehension over rows with a test, told by lc_acc2 -/
theorem flt_acc {K : PySem.W.Frag} {l : Addr} {bs : List Addr} {L : List (List Nat)} {g : TG} {tt : TT} {te : TE} {vs : List Nat} {σ : L2.St} {H0 : Hp} {Q : VK} (P : List Nat → Prop) (hl : H0 l = some (.lst (bs.map V.ref))) (t : NRows H0 bs L) (sm : L.length ≤ 256)
    (hs : ∀ b r H (Qc : VK) (R : Hp → Prop), r ∈ L → Same H0 H → H b = some (.tup (nvs r)) → (P r → ∀ H4, Same H H4 → Qc (.ref b) H4) → (¬ P r → ∀ H4, Same H H4 → R H4) →
      g (.ref b) (wipe σ vs) H fun σ2 H2 => wipe σ2 vs = wipe σ vs ∧ tt σ2 H2 fun c H3 => if c = true then te σ2 H3 Qc else R H3)
    (hd : ∀ H D cs, Same H0 H → H0 D = none → H D = some (.lst (cs.map V.ref)) → NRows H cs (flt P L) → Q (.ref D) H) : Lc (Itl K l) g tt te vs σ H0 Q := by
  have lb := NRows.len t
  refine lc_acc2 (walk_list (xs := bs.map V.ref)) (fun i acc H' => ∃ cs, acc = cs.map V.ref ∧ NRows H' cs (flt P (L.take i))) ⟨[], rfl, by rw [List.take_zero]; exact TupsAt.nil⟩ (fun i acc Ha Hb k pp => by obtain ⟨bs, e1, e2⟩ := pp; exact ⟨bs, e1, e2.kt k⟩) (fun i acc H' hi pp => by
    obtain ⟨cs, rfl, e2⟩ := pp
    have h1 := NRows.len e2
    have h2 := flt_len P (L.take i)
    rw [List.length_take] at h2
    rw [List.length_map]
    omega) (fun H' S => SqL.of (S _ _ hl)) ?_ ?_
  · rintro i x Hx Hy acc Qc R hi Sx ⟨cs, rfl, tc⟩ ⟨rfl, ex⟩ qc rc
    rw [List.length_map] at hi
    have er : L[i]? = some L[i] := List.getElem?_eq_getElem (by omega)
    obtain ⟨b, e1, e2⟩ := NRows.at (t.same Sx) er
    rw [List.getElem?_map, e1] at ex
    cases ex
    refine hs b L[i] _ Qc R (List.getElem_mem (by omega)) Sx e2 (fun h H4 S4 => ?_) (fun h H4 S4 => ?_)
    · refine qc _ _ S4 ⟨cs ++ [b], by rw [List.map_append]; rfl, ?_⟩
      rw [flt_yes er h]
      exact (tc.same S4).snoc (S4 _ _ e2)
    · refine rc _ S4 ⟨cs, rfl, ?_⟩
      rw [flt_no er h]
      exact tc.same S4
  · rintro H3 D acc S nD hD ⟨cs, rfl, tc⟩
    rw [List.length_map, lb, List.take_length] at tc
    exact hd H3 D cs S nD hD tc
theorem nodup_sub {α : Type} [DecidableEq α] : ∀ {a b : List α}, a.Nodup → (∀ x ∈ a, x ∈ b) → a.length ≤ b.length
  | [], b, _, _ => Nat.zero_le _
  | x :: r, b, nd, h => by
    have hx := h x (List.mem_cons_self ..)
    have nd2 := List.nodup_cons.mp nd
    have := nodup_sub (b := b.erase x) nd2.2 fun y hy => (List.mem_erase_of_ne (fun e => nd2.1 (by rw [← e]; exact hy))).mpr (h y (List.mem_cons_of_mem _ hy))
    rw [List.length_erase_of_mem hx] at this
    have := List.length_pos_of_mem hx
    rw [List.length_cons]
    omega
theorem niz_imN {gs : List Int} (G : GOk gs) : niz (imN gs) = gs := by
  unfold niz imN
  rw [List.map_map]
  apply List.ext_getElem?
  intro j
  by_cases k : j < gs.length
  · rw [List.getElem?_map, List.getElem?_range k, (G.at k).1]
    rfl
  · rw [List.getElem?_eq_none (by rw [List.length_map, List.length_range]; omega), List.getElem?_eq_none (by omega)]
theorem okn_imN {gs : List Int} (G : GOk gs) : Okn gs.length (imN gs) := ⟨by unfold imN; rw [List.length_map, List.length_range], fun x hx => by
  obtain ⟨b, hb, e⟩ := List.mem_map.mp hx
  rw [← e]
  exact G.lt b (List.mem_range.mp hb)⟩
/-! what a helper leaves that may change one list -/
def Sxw (w : Addr) (H H' : Hp) : Prop := ∀ a o, a ≠ w → H a = some o → H' a = some o
theorem Sxw.refl (w : Addr) (H : Hp) : Sxw w H H := fun _ _ _ h => h
theorem Sxw.trans {w : Addr} {H H1 H2 : Hp} (a : Sxw w H H1) (b : Sxw w H1 H2) : Sxw w H H2 := fun x o n h => b x o n (a x o n h)
theorem Sxw.same {w : Addr} {H H1 H2 : Hp} (a : Sxw w H H1) (S : Same H1 H2) : Sxw w H H2 := fun x o n h => S _ _ (a x o n h)
theorem Sxw.of {w : Addr} {H H1 : Hp} (S : Same H H1) : Sxw w H H1 := fun x o _ h => S _ _ h
theorem Sxw.put {w : Addr} {H H1 : Hp} {o : HO} (a : Sxw w H H1) : Sxw w H (upd H1 w o) := fun x u n h => by rw [upd_ne n]; exact a x u n h
theorem Sxw.mut {w p : Addr} {H H1 : Hp} {o : HO} (a : Sxw w H H1) (np : H p = none) : Sxw w H (upd H1 p o) := fun x u n h => by
  rw [upd_ne (fun e => by rw [e, np] at h; cases h)]
  exact a x u n h
theorem Sxw.kt {w : Addr} {H H1 : Hp} {xs : List V} (a : Sxw w H H1) (hw : H w = some (.lst xs)) : Kt H H1 := fun x ys h => a x _ (fun e => by rw [e, hw] at h; cases h) h
theorem cut_mid {xs : List V} {a b : Nat} (h : a ≤ b) (hb : b ≤ xs.length) : cutV xs (some (a : Int)) (some (b : Int)) = (xs.drop a).take (b - a) := by
  unfold cutV
  rw [HT.sIx_nat, HT.sIx_nat, Nat.min_eq_left hb, Nat.min_eq_left (show a ≤ xs.length by omega)]
theorem TupsAt.mid {H : Hp} {ps : List Addr} {vss : List (List V)} (t : TupsAt H ps vss) (a b : Nat) : TupsAt H ((ps.drop a).take b) ((vss.drop a).take b) := (t.drop a).take b
theorem map_eraseI {α β : Type} (f : α → β) : ∀ (l : List α) (k : Nat), (l.map f).eraseIdx k = (l.eraseIdx k).map f
  | [], _ => rfl
  | _ :: _, 0 => rfl
  | a :: r, k + 1 => congrArg (f a :: ·) (map_eraseI f r k)
theorem atI_m1 {α : Type} (xs : List α) (u : α) : atI (xs ++ [u]) (-1) = some u := by
  unfold atI ixN
  have hl : (xs ++ [u]).length = xs.length + 1 := by simp
  rw [hl, if_neg (by decide), if_pos (by omega)]
  have e : ((-1 : Int) + ((xs.length + 1 : Nat) : Int)).toNat = xs.length := by omega
  show (xs ++ [u])[((-1 : Int) + ((xs.length + 1 : Nat) : Int)).toNat]? = _
  rw [e, List.getElem?_append_right (Nat.le_refl _), Nat.sub_self]
  rfl
def trl (n : Nat) (qs : List (Nat × Nat)) (k : Nat) : List (List Nat) := (List.range k).map fun i => rn (List.range n) (qs.take i)
theorem trl_len (n : Nat) (qs : List (Nat × Nat)) (k : Nat) : (trl n qs k).length = k := by unfold trl; rw [List.length_map, List.length_range]
theorem trl_next (n : Nat) (qs : List (Nat × Nat)) (k : Nat) : trl n qs (k + 1) = trl n qs k ++ [rn (List.range n) (qs.take k)] := by
  unfold trl
  rw [List.range_succ, List.map_append]
  rfl
theorem trl_at {n : Nat} {qs : List (Nat × Nat)} {k i : Nat} (h : i < k) : (trl n qs k)[i]? = some (rn (List.range n) (qs.take i)) := by
  unfold trl
  rw [List.getElem?_map, List.getElem?_range h]
  rfl
/-- an image that can be met has a log -/
theorem has_log {gs : List Int} (G : GOk gs) {k : Nat} (f : Fw gs.length k (imN gs)) : mov gs gs.length = [] ∨ unw gs gs.length ≠ [] := by
  rcases f.home_or with e | ⟨v, hv, nv⟩
  · refine .inl (List.eq_nil_iff_forall_not_mem.mpr fun b hb => ?_)
    obtain ⟨h1, h2⟩ := mem_mov.mp hb
    refine h2 ?_
    have := congrArg (fun l : List Nat => l[b]?) e
    simp only [imN, List.getElem?_map, List.getElem?_range h1, Option.map_some] at this
    exact Option.some.inj this
  · refine .inr fun e => ?_
    have : v ∈ unw gs gs.length := mem_unw.mpr ⟨hv, fun j hj z => nv (List.mem_map.mpr ⟨j, List.mem_range.mpr hj, z⟩)⟩
    rw [e] at this
    cases this
theorem no_log {gs : List Int} (G : GOk gs) (h : ∀ k, ¬ Fw gs.length k (imN gs)) : mov gs gs.length ≠ [] ∧ unw gs gs.length = [] := by
  have no : ¬ (mov gs gs.length = [] ∨ unw gs gs.length ≠ []) := fun mu => h _ (reach_fw (RL.goal_least G (mu.imp id fun u => by
    obtain ⟨s, hs⟩ := List.exists_mem_of_ne_nil _ u
    exact ⟨s, (mem_unw.mp hs).1, (mem_unw.mp hs).2⟩)).1)
  exact ⟨fun m => no (.inl m), Classical.byContradiction fun u => no (.inr u)⟩
end Rv
/-! a generator def that raises before it hands out anything, and the for loop over it -/
namespace Rv
open PySem PySem.Spec PyProof.Rows L2 GenW
/-- statements that are never reached -/
theorem pss_nv {X : Cx} {st : List Stmt} : PSs X st (fun _ _ _ => False) := ⟨fun _ _ _ _ _ _ h => h.elim⟩
/-- arguments, heap, what becomes of the exception -/
abbrev SpR := List V → Hp → XK → Prop
/-- a generator that has not begun, and will raise when it is asked for its first item -/
def GMadeR (P : Program) (w : World) (k : Nat) (outer : List Env) (H : Hp) (s : Shared) (E : XK) (u : Value) (s' : Shared) : Prop :=
  ∃ (a : Addr) (g : Nat) (c : Code), u = .ref a ∧ s'.heap.IsGen a g ∧ s'.gens[g]? = some (.fresh c) ∧ s'.os = s.os ∧ AllBare s'.gens ∧ s'.heap.NoLimit ∧ (∀ b o, s.heap.get? b = some o → s'.heap.get? b = some o) ∧
    ∀ (A : Around) (s2 : Shared), Room k A → A.frames = some outer → (∀ b o, s'.heap.get? b = some o → s2.heap.get? b = some o) → s2.os = s.os → AllBare s2.gens →
      Seg (model P w) A (fun _ _ r s1 => ∃ e, r = .error e ∧ CX P w outer H s E e s1 ∧ s1.heap.IsGen a g) (fun _ _ _ _ _ => False) sizeLine s2 c ((model P w).den c) [] s2
structure GFnR (P : Program) (w : World) (K : PySem.W.Frag) (mg : Str → Option Value) (base : Heap) (k : Nat) (f : Addr) (fd : FuncData) (ps : List Str) (sp : SpR) : Prop where
  len : ∀ vs H E, sp vs H E → vs.length = ps.length
  run : ∀ (A : Around) (outer : List Env) (s : Shared) (H : Hp) (args : Args) (us : List Value) (vs : List V) (E : XK), Room k A → Env0 P w K mg base A outer s H → BindsTo s fd args (ps.zip us) → Vals vs us → sp vs H E →
    codeAny (model P w) A (.call (.ref f) args) (fun r s' => match r with | .ok (.ret u) => GMadeR P w k outer H s E u s' | _ => False) s
/-- by its body -/
theorem gfnR_of {P : Program} {w : World} {K : PySem.W.Frag} {mg : Str → Option Value} {base : Heap} {k : Nat} {f : Addr} {name qual : Str} {params : Arguments} {body : List Stmt} {scope : Scope} {dV kV doc pm cdv ct oc : Value} {an od : Option Addr}
    {osl : Array (Option Value)} {N ps : List Str} {sp : SpR} (lk : K.lookup f = some ⟨oc, od, .func (PySem.W.fnOf name qual params body scope dV kV doc pm an cdv ct), osl⟩) (hcd : PySem.W.codeIn K cdv qual = true) (S : GScope N ps scope)
    (len : ∀ vs H E, sp vs H E → vs.length = ps.length)
    (hbody : ∀ (A : Around) (outer : List Env) (s : Shared) (H : Hp) (vs : List V) (E : XK) (pn : List (Addr × Obj)), Room k (A.deeper (envOfC qual scope s.heap.objs.size f cdv)) → sp vs H E →
      ∃ t, PSs (gcxOf P w K mg base N qual scope f cdv A outer s H E pn) body t ∧ t { nx := fun _ _ => False, rt := fun _ _ => False } (start N vs) H) :
    GFnR P w K mg base (k + 1) f (PySem.W.fnOf name qual params body scope dV kV doc pm an cdv ct) ps sp := by
  refine ⟨len, fun A outer s H args us vs E hr e0 hb r hsp => ?_⟩
  have hl := len _ _ _ hsp
  have KX : K.In s.heap := e0.mod.kin.keeps fun b o e => (e0.bs b o e).1
  have lim : s.heap.NoLimit := e0.mod.nolimit.keeps fun b o e => (e0.bs b o e).1
  have hkind : ∀ y ∈ ps.zip us, scope.names.lookup y.1 = some .local ∨ (scope.names.lookup y.1 = some .cell ∧ ((cellsFrom (s.heap.objs.size + 1) scope.names []).lookup y.1).isSome = true) := fun ⟨n, v⟩ hy => by
    rcases S.par n (List.of_mem_zip hy).1 with q | q
    · exact .inl q
    · exact .inr ⟨q, PySem.W.cellsFrom_some _ _ _ (.inl q)⟩
  refine codeAny_call_generator hr.depth (KX _ _ lk) rfl S.co S.gen rfl (PySem.W.codeRec_of KX hcd) (hb _ _ _ _ ?_)
  refine wpAny_newFunctionEnv_cells S.kind hkind fun env he s1 x => ?_
  subst he
  have lim1 : s1.heap.NoLimit := lim.keeps x.toInCall.keep
  refine ⟨lim1, ?_⟩
  obtain ⟨h1, tk, es1, hk1⟩ := x.done
  have os1 : s1.os = s.os := by rw [es1]
  have gen1 : s1.gens = s.gens := by rw [es1]
  have lt1 : s.heap.objs.size < s1.heap.objs.size := x.toInCall.ns.lt
  have kp1 : ∀ b o, s.heap.get? b = some o → s1.heap.get? b = some o := x.toInCall.keep
  have main : ∀ (go : Obj) (nm qn : Value) (tk2 : Nat), go.cls = .type "generator" → go.data = .fields #[.int s1.gens.size 0, nm, qn] → go.slots = #[] → (∀ h : Heap, (h.push go).get? h.objs.size = some go) →
      GMadeR P w (k + 1) outer H s E (.ref s1.heap.objs.size) { s1 with gens := s1.gens.push (.fresh (.func body (envOfC qual scope s.heap.objs.size f cdv))), toks := tk2, heap := s1.heap.push go } := by
    intro go nm qn tk2 hgc hgd0 hgs hgp
    have hgen : ∀ h : Heap, h.get? s1.heap.objs.size = some go → h.IsGen s1.heap.objs.size s1.gens.size := fun h e => ⟨go, nm, qn, e, hgc, hgd0, hgs⟩
    have hpushed : (s1.heap.push go).get? s1.heap.objs.size = some go := hgp _
    refine ⟨s1.heap.objs.size, s1.gens.size, _, rfl, hgen _ hpushed, Array.getElem?_push_size .., os1, ?_, lim1.keeps fun b o e => Heap.get?_push_of_some _ e, fun b o e => Heap.get?_push_of_some _ (kp1 b o e), ?_⟩
    · exact AllBare.push (by rw [gen1]; exact e0.bare) rfl
    intro Aw s2 hrw hfr hk2 hos hba
    have e0w : Env0 P w K mg base Aw outer s H := ⟨hfr, e0.mod, e0.bs, e0.bsz, e0.funs, e0.frf, e0.hok, e0.bare⟩
    obtain ⟨t, ht, hq⟩ := hbody Aw outer s H vs E [(s1.heap.objs.size, go)] (hrw.deeper _) hsp
    have I1 : Inv (gcxOf P w K mg base N qual scope f cdv Aw outer s H E []) [] (start N vs) H s1 := inv_startG S hrw.hd e0w hl r x
    have kp2 : ∀ b o, s1.heap.get? b = some o → s2.heap.get? b = some o := fun b o e => hk2 b o (Heap.get?_push_of_some _ e)
    have I2 : Inv (gcxOf P w K mg base N qual scope f cdv Aw outer s H E []) [] (start N vs) H s2 :=
      I1.call' (ch := []) (hos.trans os1.symm) (Un.kept kp2) (I1.hok.kept kp2) hba fun b z => by simp at z
    have hea : s2.heap.get? s1.heap.objs.size = some go := hk2 s1.heap.objs.size go hpushed
    have hgd : ∀ v, go.data ≠ .cell v := fun v q => by rw [hgd0] at q; cases q
    have I3 : Inv (gcxOf P w K mg base N qual scope f cdv Aw outer s H E [(s1.heap.objs.size, go)]) [] (start N vs) H s2 := by
      refine Inv.pinnedG I2 fun p hp => ?_
      rcases List.mem_append.mp hp with z | z
      · rw [List.mem_singleton.mp z]
        exact ⟨hea, I1.hok.fresh (Nat.le_refl _), Nat.ne_of_gt lt1, I1.nofs (Nat.le_refl _), hgd⟩
      · exact absurd z (by simp)
    refine seg_func ?_
    refine seg_wrap ?_
    rw [over_func]
    refine wpAny_mono (ht.run [] s2 _ H _ I3 hq) (fun fl s' hs => ?_) fun e s' hx => ?_
    · cases fl with
      | next => obtain ⟨_, _, _, q⟩ := hs; exact False.elim q
      | brk => obtain ⟨_, _, _, q⟩ := hs; exact False.elim q
      | cont => obtain ⟨_, _, _, q⟩ := hs; exact False.elim q
      | ret u => obtain ⟨_, _, _, _, _, q⟩ := hs; exact False.elim q
    · refine seg_wrap ?_
      rw [over_func]
      refine wpAny_mono (show wpAny (model P w) (Aw.deeper (envOfC qual scope s.heap.objs.size f cdv)) (leaving (envOfC qual scope s.heap.objs.size f cdv) e) (fun _ s'' => CX P w outer H s E e s'' ∧ ∀ p ∈ [(s1.heap.objs.size, go)], s''.heap.get? p.1 = some p.2) (fun _ _ => False) s' from hx) (fun _ s'' q => ?_) fun _ s'' q => q.elim
      exact seg_end (.error e) ⟨e, rfl, q.1, hgen _ (q.2 (s1.heap.objs.size, go) (List.mem_singleton.mpr rfl))⟩
  exact main _ _ _ _ rfl rfl rfl fun h => Heap.get?_push_size _ rfl
section
variable {X : Cx} {k : Nat} {f : Addr} {fd : FuncData} {ps : List Str} {sp : SpR} {E : L2.St → XK} {x : Str} {e tg : Expr} {es : List Expr} {t : TA} {body : List Stmt} {p pos cpos : Pos}
theorem passN {X : Cx} {W : WX} {N : Value → Prop} (tk : Takes X W) (σ : L2.St) : PassesAt (L2.CX X.prog X.w) X σ (fun cls d H' => N cls ∧ WE W σ cls d H') := fun _ _ _ e s' I c => tk e s' (XE.of_call I (fun _ _ _ h => h.2) c)
/-- for tg in f(e, ..): f's generator raises at once -/
def tForR (N : Value → Prop) (sp : SpR) (E : L2.St → XK) (t : TA) : TS := fun _ σ H => t σ H fun vs H1 => sp vs H1 (fun cls d H' => N cls ∧ E σ cls d H')
theorem ps_forR {N : Value → Prop} (F : GFnR X.prog X.w X.K X.mg X.base k f fd ps sp) (hr : Room (k + 1) X.A) (hc : X.calm = true) (hg : Gl X x) (hm : X.mg x = some (.ref f)) (hk : PySem.W.keepIn X.K (.ref f) = true) (hb : Binds X.K fd ps []) (hx : ∀ σ, PassesAt (CX X.prog X.w) X σ (fun cls d H' => N cls ∧ E σ cls d H')) (hns : ∀ cls, N cls → PySem.W.subIn X.K cls (.type "StopIteration") = some false)
    (hp : PassesOwn (model X.prog X.w) X.A X.env X.xe) (ha : PA X (e :: es) t) (hdb : (x == ("__debug__" : Str)) = false := by decide) (he : starEach (e :: es) X.env = (false, eval e X.env) :: starEach es X.env := by rfl) (hpl : (backTo cpos (starEach es X.env)).any (·.1) = false := by rfl)
    (hs : ∀ y, foldedSetIterable (.Call (.Name x p) (e :: es) [] cpos) X.env y = pure y := by intro _; rfl) :
    PS X (.For tg (.Call (.Name x p) (e :: es) [] cpos) body [] pos) (tForR N sp E t) := by
  refine ⟨fun pins s σ H D I h => ?_⟩
  refine wpAny_For ?_ hs
  refine wpAny_Call_Name_kw (ld_glob I hg hm ?_ hdb)
  refine PySem.W.callWith_K (h₀ := X.base) I.ok.mod.kin hk (thn (ha.run cpos pins s σ H _ I h) fun us s1 ⟨vs, H1, I1, r, q⟩ => ⟨I1.kIn, ?_⟩) he hpl
  have hl : us.length = ps.length := by rw [← r.length]; exact F.len _ _ _ q
  have b := hb s1 us I1.kIn (by rw [List.append_nil]; exact hl)
  rw [List.append_nil] at b
  refine wpAny_call (codeAny_mono (F.run X.A X.stack s1 H1 ⟨us, []⟩ us vs _ ⟨hr.hd, by have := hr.dp; omega, by have := hr.un; omega⟩ I1.env0 b r q) fun rr s' hq => ?_)
  cases rr with
  | error e => exact False.elim hq
  | ok fl =>
    cases fl with
    | next => exact False.elim hq
    | brk => exact False.elim hq
    | cont => exact False.elim hq
    | ret u =>
      obtain ⟨a, g, c, rfl, hgen, hgs, hos, hba, hli, hkp, wake⟩ := hq
      refine wpAny_pyIter_gen hgen ?_
      refine codeAny_forLoop_any (fun _ s'' => s'' = s') ?_ 0 rfl
      rintro n s3 rfl
      refine wpAny_passesOwn hp ?_
      refine next_genG (F := fun _ _ _ => False) (Er := fun e s₁ => CX X.prog X.w X.stack H1 s1 (fun cls d H' => N cls ∧ E σ cls d H') e s₁ ∧ s₁.heap.IsGen a g) (Y := fun _ _ _ _ _ => False) (n := sizeLine) (gs := .fresh c) hr.hd hli (by have := hr.dp; omega) hgen hgs ?_ (fun v s₁ gs' _ hf => hf.elim) (fun s₁ hf => hf.elim) ?_
      · refine ⟨rfl, ?_⟩
        refine seg_imp (fun n s₀ r s => fun z => .inr z) (fun _ _ _ _ _ _ _ z => z) sizeLine ?_
        exact wake _ _ ⟨hr.hd, by have := hr.dp; show X.A.depth + 3 * k + 5 < _; omega, by have := hr.un; show X.A.units + 1 + 16 * k + 200 < _; omega⟩ I1.ok.frames (fun _ _ z => z) hos (allBare_setGen hba rfl)
      · rintro ee s₁ ⟨hc1, hg1⟩
        have kin : X.K.In s₁.heap := by
          obtain ⟨a, B, H', cls, d, _, fl, _, ub, _⟩ := id hc1
          refine I1.ok.mod.kin.keeps fun b o eb => fl.1 b o (ub.keep b o (I1.bs b o eb).1 (I1.bs b o eb).2 fun hm => ?_)
          rcases List.mem_cons.mp (I1.stkSub b hm) with z | z
          · have h1 := Heap.lt_size eb
            have h2 := Nat.le_trans I1.ok.bsz I1.ok.above
            rw [z] at h1
            exact absurd (Nat.lt_of_lt_of_le h1 h2) (Nat.lt_irrefl _)
          · exact I1.ok.nofr eb z
        refine ⟨hg1, notStop_of (fun cls d H z => hns cls z.1) kin hc1, hx σ pins H1 s1 ee _ I1 ?_⟩
        obtain ⟨a, B, H', cls, d, z1, fl, z2, ub, z3, z4, z5, z6⟩ := hc1
        exact ⟨a, B, H', cls, d, z1, fl, z2, ub, z3, z4, allBare_setGen z5 rfl, z6⟩
end
end Rv
/-! x is not None, as a value -/
namespace Rv
open PySem PySem.Spec PyProof.Rows L2
def rNotNQ : R2 := fun x y H Q => y = .non ∧ Q (.bl (!decide (x = .non))) H
theorem op_notNQ {X : Cx} : OpR X (compareOp .IsNot) rNotNQ := op_notN
theorem rd_notNQ {H : Hp} {Q : VK} {v : V} (q : Q (.bl (!decide (v = .non))) H) : rNotNQ v .non H Q := ⟨rfl, q⟩
end Rv
/-! for k31: goals that are none, math.comb, counts of safe goals -/
namespace Rv
open PySem PySem.Spec PyProof.Rows L2 RL RS
theorem rd_forR {N : Value → Prop} {sp : SpR} {E : L2.St → XK} {t : TA} {D : Ends} {σ : L2.St} {H : Hp} (q : t σ H fun vs H1 => sp vs H1 (fun cls d H' => N cls ∧ E σ cls d H')) : tForR N sp E t D σ H := q
def rComb : List V → Hp → VK → Prop := fun vs H Q => ∃ a b : Nat, vs = [.int a, .int b] ∧ a ≤ 60 ∧ b ≤ 60 ∧ Q (.int (PySem.W.mcComb a b)) H
theorem cr_comb {X : Cx} : CallR X (.builtin "math.comb") rComb := by
  intro pins s σ H vs us Q I r h
  obtain ⟨a, b, rfl, h1, h2, q⟩ := h
  obtain ⟨t, u, rfl⟩ := Vals.int2 r
  exact PySem.W.mc_comb (by omega) (by omega) (by omega) (.inl (by omega)) fun _ => ⟨.int _, H, I.tok _, ⟨_, rfl⟩, q⟩
theorem rd_comb {H : Hp} {Q : VK} {a b : Nat} (h1 : a ≤ 60) (h2 : b ≤ 60) (q : Q (.int (PySem.W.mcComb a b)) H) : rComb [.int a, .int b] H Q := ⟨a, b, rfl, h1, h2, q⟩
theorem kit_it : kitB "int" "tuple" = some false := by decide +kernel
theorem kit_st2 : kitB "str" "tuple" = some false := by decide +kernel
theorem kit_ti : kitB "tuple" "int" = some false := by decide +kernel
/-- an entry of a goal that is none -/
def OddV (H : Hp) (x : V) : Prop := (∃ e : Int, x = .int e) ∨ (∃ z, x = .str z) ∨ x = .non ∨ ∃ p xs, x = .ref p ∧ H p = some (.tup xs)
def NumOk (n : Nat) (x : V) : Prop := ∃ e : Int, x = .int e ∧ 0 ≤ e ∧ e < n
def GoalBad (M : List Addr) (H : Hp) (v : V) (k : Int) : Prop :=
  (k = -1 ∧ (v = .non ∨ (∃ i, v = .int i) ∨ (∃ z, v = .str z) ∨ (∃ p xs, v = .ref p ∧ p ∉ M ∧ H p = some (.lst xs)) ∨ (∃ p xs, v = .ref p ∧ H p = some (.tup xs) ∧ (xs.length = 0 ∨ 12 < xs.length) ∧ xs.length ≤ 1000))) ∨
  (∃ (p : Addr) (xs : List V) (j : Nat), v = .ref p ∧ H p = some (.tup xs) ∧ 1 ≤ xs.length ∧ xs.length ≤ 12 ∧ (∀ x ∈ xs, OddV H x) ∧ k = (j : Int) ∧ (∃ x, xs[j]? = some x ∧ ¬ NumOk xs.length x) ∧ ∀ (i : Nat) x, i < j → xs[i]? = some x → NumOk xs.length x)
theorem OddV.kt {H H' : Hp} {x : V} (h : OddV H x) (t : Kt H H') : OddV H' x := by
  rcases h with h | h | h | ⟨p, xs, e, h⟩
  · exact .inl h
  · exact .inr (.inl h)
  · exact .inr (.inr (.inl h))
  · exact .inr (.inr (.inr ⟨p, xs, e, t _ _ h⟩))
theorem GoalBad.keep {M : List Addr} {H H' : Hp} {v : V} {k : Int} (h : GoalBad M H v k) (kp : ∀ a o, a ∉ M → H a = some o → H' a = some o) (t : Kt H H') : GoalBad M H' v k := by
  rcases h with ⟨e, h | h | h | ⟨p, xs, e2, n, h⟩ | ⟨p, xs, e2, h, l⟩⟩ | ⟨p, xs, j, e, h, l1, l2, o, r⟩
  · exact .inl ⟨e, .inl h⟩
  · exact .inl ⟨e, .inr (.inl h)⟩
  · exact .inl ⟨e, .inr (.inr (.inl h))⟩
  · exact .inl ⟨e, .inr (.inr (.inr (.inl ⟨p, xs, e2, n, kp _ _ n h⟩)))⟩
  · exact .inl ⟨e, .inr (.inr (.inr (.inr ⟨p, xs, e2, t _ _ h, l⟩)))⟩
  · exact .inr ⟨p, xs, j, e, t _ _ h, l1, l2, fun x hx => (o x hx).kt t, r⟩
theorem GoalBad.same {M : List Addr} {H H' : Hp} {v : V} {k : Int} (h : GoalBad M H v k) (S : Same H H') : GoalBad M H' v k := h.keep (fun a o _ e => S a o e) (Kt.same S)
theorem GoalBad.wg {B : Box} {H H' : Hp} {v : V} {k : Int} (h : GoalBad B.m H v k) (w : Wg B H H') : GoalBad B.m H' v k := h.keep w.keep (Kt.wg w)
end Rv
/-! the mathematics: homeless numbers, and how many goals have none -/
namespace RH
/-- the numbers of the goal that are not at home -/
def strays (gs : List Int) : List Int := gs.filter fun x => !decide (gs.getD x.toNat 0 = x)
def strays_ (gs : List Int) (i : Nat) : List Int := (gs.take i).filter fun x => !decide (gs.getD x.toNat 0 = x)
/-- the same, in order and each once -/
def homl (gs : List Int) : Nat → List Int
  | 0 => []
  | k + 1 => homl gs k ++ (if (k : Int) ∈ gs ∧ gs.getD k 0 ≠ (k : Int) then [(k : Int)] else [])
theorem homl_mem {gs : List Int} {x : Int} : ∀ {k : Nat}, x ∈ homl gs k ↔ 0 ≤ x ∧ x < k ∧ x ∈ gs ∧ gs.getD x.toNat 0 ≠ x
  | 0 => by simp [homl]; omega
  | k + 1 => by
    rw [homl, List.mem_append, homl_mem]
    constructor
    · rintro (⟨h1, h2, h3, h4⟩ | h)
      · exact ⟨h1, by omega, h3, h4⟩
      · split at h
        · rename_i z
          rw [List.mem_singleton.mp h]
          exact ⟨by omega, by omega, z.1, by rw [Int.toNat_natCast]; exact z.2⟩
        · cases h
    · rintro ⟨h1, h2, h3, h4⟩
      by_cases e : x = (k : Int)
      · subst e
        refine .inr ?_
        rw [Int.toNat_natCast] at h4
        rw [if_pos ⟨h3, h4⟩]
        exact List.mem_singleton.mpr rfl
      · exact .inl ⟨h1, by omega, h3, h4⟩
theorem homl_asc {gs : List Int} : ∀ {k : Nat}, (homl gs k).Pairwise (· < ·)
  | 0 => .nil
  | k + 1 => by
    rw [homl, List.pairwise_append]
    refine ⟨homl_asc, by split <;> simp, fun a ha b hb => ?_⟩
    split at hb
    · rw [List.mem_singleton.mp hb]
      exact (homl_mem.mp ha).2.1
    · cases hb
theorem homl_len {gs : List Int} : ∀ {k : Nat}, (homl gs k).length ≤ k
  | 0 => Nat.le_refl _
  | k + 1 => by
    rw [homl, List.length_append]
    have := homl_len (gs := gs) (k := k)
    split <;> simp <;> omega
theorem strays_asc {gs : List Int} (en : ∀ e ∈ gs, 0 ≤ e ∧ e < gs.length) : Rv.Asc (strays gs) (homl gs gs.length) := ⟨homl_asc, fun x => by
  rw [homl_mem]
  unfold strays
  rw [List.mem_filter]
  constructor
  · rintro ⟨h1, h2, h3, h4⟩
    exact ⟨h3, by rw [Bool.not_eq_true', decide_eq_false_iff_not]; exact h4⟩
  · rintro ⟨h1, h2⟩
    rw [Bool.not_eq_true', decide_eq_false_iff_not] at h2
    exact ⟨(en x h1).1, (en x h1).2, h1, h2⟩⟩
theorem strays_nil {gs : List Int} (en : ∀ e ∈ gs, 0 ≤ e ∧ e < gs.length) : strays gs = [] ↔ homl gs gs.length = [] := by
  have a := (strays_asc en).2
  constructor
  · intro h
    cases z : homl gs gs.length with
    | nil => rfl
    | cons x r =>
      have := (a x).mp (by rw [z]; exact List.mem_cons_self ..)
      rw [h] at this; cases this
  · intro h
    cases z : strays gs with
    | nil => rfl
    | cons x r =>
      have := (a x).mpr (by rw [z]; exact List.mem_cons_self ..)
      rw [h] at this; cases this
theorem mul_pow {w h : Int} {j : Nat} : w * h ^ j * h = w * h ^ (j + 1) := by rw [Int.pow_succ, Int.mul_assoc]
/-- the sum of the program -/
def csg (b : Nat) : Nat → Int
  | 0 => 0
  | i + 1 => csg b i + PySem.W.mcComb b ((i + 1 : Nat) : Int) * ((i + 1 : Nat) : Int) ^ (b - (i + 1))
/-- the sum of the law: its choices, its sum -/
def chs (b : Nat) : Nat → Int
  | 0 => 1
  | i + 1 => (chs b i * ((b : Int) + 1 - ((i + 1 : Nat) : Int))).fdiv ((i + 1 : Nat) : Int)
def lct (b : Nat) : Nat → Int
  | 0 => 0
  | i + 1 => lct b i + chs b (i + 1) * ((i + 1 : Nat) : Int) ^ (b - (i + 1))
theorem csg_fin : ∀ b : Fin 13, csg b.val b.val = lct b.val b.val := by decide +kernel
theorem csg_lct (b : Nat) (h : b ≤ 12) : csg b b = lct b b := csg_fin ⟨b, by omega⟩
def sf (r : List Nat) : Bool := (strays (Rv.niz r)).isEmpty
theorem csg_fin4 : ∀ b : Fin 4, (((RS.ev (b.val + 1) (b.val + 1)).filter sf).length : Int) = csg (b.val + 1) (b.val + 1) := by decide +kernel
theorem csg_small (b : Nat) (h1 : 1 ≤ b) (h : b ≤ 4) : (((RS.ev b b).filter sf).length : Int) = csg b b := by
  have := csg_fin4 ⟨b - 1, by omega⟩
  simp only [show b - 1 + 1 = b by omega] at this
  exact this
end RH
namespace K31
open PySem PySem.Spec PyProof.Rows L2 Rv RL RS RH
def top (i : Nat) : Stmt := PySem.Challenge.pw_redolots_k31_safe_goals.main.body.getD i (.Pass ⟨0, 0, 0, 0⟩)
abbrev scheck_goal : Stmt := top 14
theorem sccheck_goal : FnScope ["goal", "at", "number"] ["goal"] (defScope scheck_goal) := ⟨rfl, rfl, rfl, by decide +kernel, rfl, by decide +kernel, by decide +kernel⟩
abbrev shomeless : Stmt := top 15
theorem schomeless : FnScope ["goal", "number"] ["goal"] (defScope shomeless) := ⟨rfl, rfl, rfl, by decide +kernel, rfl, by decide +kernel, by decide +kernel⟩
abbrev ssafe_log : Stmt := top 16
theorem scsafe_log : FnScope ["goal", "missing", "taken", "block"] ["goal"] (defScope ssafe_log) := ⟨rfl, rfl, rfl, by decide +kernel, rfl, by decide +kernel, by decide +kernel⟩
abbrev sleast_logs : Stmt := top 17
theorem scleast_logs : GScope ["goal", "waiting", "taken", "following", "pair"] ["goal"] (defScope sleast_logs) := ⟨rfl, rfl, rfl, by decide +kernel, rfl, by decide +kernel, by decide +kernel⟩
abbrev scount_least_logs : Stmt := top 18
theorem sccount_least_logs : FnScope ["goal", "changed", "logs", "number", "block"] ["goal"] (defScope scount_least_logs) := ⟨rfl, rfl, rfl, by decide +kernel, rfl, by decide +kernel, by decide +kernel⟩
abbrev scount_safe_goals : Stmt := top 19
theorem sccount_safe_goals : FnScope ["blocks", "goals", "homes", "ways", "_"] ["blocks"] (defScope scount_safe_goals) := ⟨rfl, rfl, rfl, by decide +kernel, rfl, by decide +kernel, by decide +kernel⟩
abbrev sclosed_rings : Stmt := top 26
theorem scclosed_rings : FnScope ["goal", "ring", "block"] ["goal"] (defScope sclosed_rings) := ⟨rfl, rfl, rfl, by decide +kernel, rfl, by decide +kernel, by decide +kernel⟩
abbrev sfewest_copies : Stmt := top 27
theorem scfewest_copies : FnScope ["goal"] ["goal"] (defScope sfewest_copies) := ⟨rfl, rfl, rfl, by decide +kernel, rfl, by decide +kernel, by decide +kernel⟩
abbrev sleast_log : Stmt := top 28
theorem scleast_log : FnScope ["goal", "turned", "taken", "ring", "in_rings", "block"] ["goal"] (defScope sleast_log) := ⟨rfl, rfl, rfl, by decide +kernel, rfl, by decide +kernel, by decide +kernel⟩
abbrev scheck_has_log : Stmt := top 29
theorem sccheck_has_log : FnScope ["goal"] ["goal"] (defScope scheck_has_log) := ⟨rfl, rfl, rfl, by decide +kernel, rfl, by decide +kernel, by decide +kernel⟩
abbrev sfewest_stages : Stmt := top 35
theorem scfewest_stages : FnScope ["goal", "found", "last", "many", "image"] ["goal"] (defScope sfewest_stages) := ⟨rfl, rfl, rfl, by decide +kernel, rfl, by decide +kernel, by decide +kernel⟩
abbrev s_law_bag : Stmt := top 39
theorem sc_law_bag : FnScope ["script", "cell", "cells", "seed"] ["script"] (defScope s_law_bag) := ⟨rfl, rfl, rfl, by decide +kernel, rfl, by decide +kernel, by decide +kernel⟩
abbrev s_law_take : Stmt := top 40
theorem sc_law_take : FnScope ["bag", "many", "cell", "digit", "once", "twice"] ["bag", "many"] (defScope s_law_take) := ⟨rfl, rfl, rfl, by decide +kernel, rfl, by decide +kernel, by decide +kernel⟩
abbrev s_law_is_number : Stmt := top 41
theorem sc_law_is_number : FnScope ["told"] ["told"] (defScope s_law_is_number) := ⟨rfl, rfl, rfl, by decide +kernel, rfl, by decide +kernel, by decide +kernel⟩
abbrev s_law_is_numbers : Stmt := top 42
theorem sc_law_is_numbers : FnScope ["told", "due", "place"] ["told", "due"] (defScope s_law_is_numbers) := ⟨rfl, rfl, rfl, by decide +kernel, rfl, by decide +kernel, by decide +kernel⟩
abbrev s_law_goal : Stmt := top 43
theorem sc_law_goal : FnScope ["bag", "blocks", "way", "block", "goal", "turn", "place", "root", "movers", "stays"] ["bag"] (defScope s_law_goal) := ⟨rfl, rfl, rfl, by decide +kernel, rfl, by decide +kernel, by decide +kernel⟩
abbrev s_law_odd_entry : Stmt := top 44
theorem sc_law_odd_entry : FnScope ["bag", "blocks", "pick", "far"] ["bag", "blocks"] (defScope s_law_odd_entry) := ⟨rfl, rfl, rfl, by decide +kernel, rfl, by decide +kernel, by decide +kernel⟩
abbrev s_law_spoilt : Stmt := top 45
theorem sc_law_spoilt : FnScope ["bag", "goal", "pick", "blocks", "row", "early", "late", "entry"] ["bag", "goal"] (defScope s_law_spoilt) := ⟨rfl, rfl, rfl, by decide +kernel, rfl, by decide +kernel, by decide +kernel⟩
abbrev s_law_call : Stmt := top 46
theorem sc_law_call : FnScope ["door", "goal", "log"] ["door", "goal"] (defScope s_law_call) := ⟨rfl, rfl, rfl, by decide +kernel, rfl, by decide +kernel, by decide +kernel⟩
abbrev s_law_refused : Stmt := top 47
theorem sc_law_refused : FnScope ["door", "goal", "due", "raised"] ["door", "goal", "due"] (defScope s_law_refused) := ⟨rfl, rfl, rfl, by decide +kernel, rfl, by decide +kernel, by decide +kernel⟩
abbrev s_law_homeless : Stmt := top 48
theorem sc_law_homeless : FnScope ["goal", "found", "number"] ["goal"] (defScope s_law_homeless) := ⟨rfl, rfl, rfl, by decide +kernel, rfl, by decide +kernel, by decide +kernel⟩
abbrev s_law_every : Stmt := top 49
theorem sc_law_every : FnScope ["blocks", "rows", "place", "longer", "row", "number"] ["blocks"] (defScope s_law_every) := ⟨rfl, rfl, rfl, by decide +kernel, rfl, by decide +kernel, by decide +kernel⟩
abbrev s_law_small_right : Stmt := top 50
theorem sc_law_small_right : FnScope ["blocks", "many", "goal", "told", "number"] ["blocks"] (defScope s_law_small_right) := ⟨rfl, rfl, rfl, by decide +kernel, rfl, by decide +kernel, by decide +kernel⟩
abbrev s_law_count : Stmt := top 51
theorem sc_law_count : FnScope ["blocks", "many", "choices", "stays", "ways", "mover"] ["blocks"] (defScope s_law_count) := ⟨rfl, rfl, rfl, by decide +kernel, rfl, by decide +kernel, by decide +kernel⟩
abbrev slaw : Stmt := top 52
theorem sclaw : FnScope ["script", "bag", "goal", "spoilt", "small", "blocks", "door", "told"] ["script"] (defScope slaw) := ⟨rfl, rfl, rfl, by decide +kernel, rfl, by decide +kernel, by decide +kernel⟩
abbrev sInvalidGoalu_initu : Stmt := inClass (top 4) 0
theorem scInvalidGoalu_initu : FnScope ["self", "at"] ["self", "at"] (defScope sInvalidGoalu_initu) := ⟨rfl, rfl, rfl, by decide +kernel, rfl, by decide +kernel, by decide +kernel⟩
theorem okInit_InvalidGoal {P : Program} {w : World} {K : PySem.W.Frag} {mg : Str → Option Value} {base : Heap} {C fI : Addr} {fd : FuncData} (ET : ErrT K mg C fI "InvalidGoal" "at") (F : Fun K "__init__" "InvalidGoal.__init__" sInvalidGoalu_initu fI fd) : FnOk P w K mg base CX0 1 fI fd ["self", "at"] (spErr C "at") := by
  refine F.ok scInvalidGoalu_initu (fun vs H Q E h => ?_) (fun cdv A outer s H vs Q E hr h => ?_)
  · obtain ⟨a, v, rfl, _⟩ := h
    rfl
  · obtain ⟨a, v, rfl, ea, q⟩ := h
    exact ⟨_, pss_one (ps_ost (pv 0) (pv 1)), _, rfl, _, rfl, a, C, rfl, ET.ox, ET.noN, .inl ⟨ea, fun d nd ne => q d nd ne⟩⟩
structure Top (K : PySem.W.Frag) (mg : Str → Option Value) : Prop where
  d_check_goal : ∃ f fd, Def K mg "check_goal" scheck_goal ["goal"] f fd
  d_homeless : ∃ f fd, Def K mg "homeless" shomeless ["goal"] f fd
  d_safe_log : ∃ f fd, Def K mg "safe_log" ssafe_log ["goal"] f fd
  d_least_logs : ∃ f fd, Def K mg "least_logs" sleast_logs ["goal"] f fd
  d_count_least_logs : ∃ f fd, Def K mg "count_least_logs" scount_least_logs ["goal"] f fd
  d_count_safe_goals : ∃ f fd, Def K mg "count_safe_goals" scount_safe_goals ["blocks"] f fd
  d_closed_rings : ∃ f fd, Def K mg "closed_rings" sclosed_rings ["goal"] f fd
  d_fewest_copies : ∃ f fd, Def K mg "fewest_copies" sfewest_copies ["goal"] f fd
  d_least_log : ∃ f fd, Def K mg "least_log" sleast_log ["goal"] f fd
  d_check_has_log : ∃ f fd, Def K mg "check_has_log" scheck_has_log ["goal"] f fd
  d_fewest_stages : ∃ f fd, Def K mg "fewest_stages" sfewest_stages ["goal"] f fd
  d__law_bag : ∃ f fd, Def K mg "_law_bag" s_law_bag ["script"] f fd
  d__law_take : ∃ f fd, Def K mg "_law_take" s_law_take ["bag", "many"] f fd
  d__law_is_number : ∃ f fd, Def K mg "_law_is_number" s_law_is_number ["told"] f fd
  d__law_is_numbers : ∃ f fd, Def K mg "_law_is_numbers" s_law_is_numbers ["told", "due"] f fd
  d__law_goal : ∃ f fd, Def K mg "_law_goal" s_law_goal ["bag"] f fd
  d__law_odd_entry : ∃ f fd, Def K mg "_law_odd_entry" s_law_odd_entry ["bag", "blocks"] f fd
  d__law_spoilt : ∃ f fd, Def K mg "_law_spoilt" s_law_spoilt ["bag", "goal"] f fd
  d__law_call : ∃ f fd, Def K mg "_law_call" s_law_call ["door", "goal"] f fd
  d__law_refused : ∃ f fd, Def K mg "_law_refused" s_law_refused ["door", "goal", "due"] f fd
  d__law_homeless : ∃ f fd, Def K mg "_law_homeless" s_law_homeless ["goal"] f fd
  d__law_every : ∃ f fd, Def K mg "_law_every" s_law_every ["blocks"] f fd
  d__law_small_right : ∃ f fd, Def K mg "_law_small_right" s_law_small_right ["blocks"] f fd
  d__law_count : ∃ f fd, Def K mg "_law_count" s_law_count ["blocks"] f fd
  d_law : ∃ f fd, Def K mg "law" slaw ["script"] f fd
  b_ValueError : mg "ValueError" = none
  b_bool : mg "bool" = none
  b_enumerate : mg "enumerate" = none
  b_int : mg "int" = none
  b_isinstance : mg "isinstance" = none
  b_len : mg "len" = none
  b_list : mg "list" = none
  b_range : mg "range" = none
  b_sorted : mg "sorted" = none
  b_str : mg "str" = none
  b_tuple : mg "tuple" = none
  k_MOST_BLOCKS_goals : ∃ u, mg "MOST_BLOCKS_goals" = some u ∧ RelV (.int (12)) u
  e_InvalidGoal : ∃ (fI : Addr) (fd : FuncData), ErrT K mg (atTop K "InvalidGoal") fI "InvalidGoal" "at" ∧ Fun K "__init__" "InvalidGoal.__init__" sInvalidGoalu_initu fI fd ∧ Binds K fd ["self", "at"] []
  c_InvalidGoal : ∃ u, mg "InvalidGoal" = some u ∧ RelV (.ref (atTop K "InvalidGoal")) u
  c_NoSafeLog : ∃ u, mg "NoSafeLog" = some u ∧ RelV (.ref (atTop K "NoSafeLog")) u
  c_NoLog : ∃ u, mg "NoLog" = some u ∧ RelV (.ref (atTop K "NoLog")) u
  c_TooMany : ∃ u, mg "TooMany" = some u ∧ RelV (.ref (atTop K "TooMany")) u
  c_RedoError : ∃ u, mg "RedoError" = some u ∧ RelV (.ref (atTop K "RedoError")) u
  x_InvalidGoal_InvalidGoal : PySem.W.exmOne K (.ref (atTop K "InvalidGoal")) (.ref (atTop K "InvalidGoal")) = some true
  k_InvalidGoal_NoSafeLog : PySem.W.kitOne K (.ref (atTop K "InvalidGoal")) (.ref (atTop K "NoSafeLog")) = some false
  k_InvalidGoal_NoLog : PySem.W.kitOne K (.ref (atTop K "InvalidGoal")) (.ref (atTop K "NoLog")) = some false
  k_InvalidGoal_TooMany : PySem.W.kitOne K (.ref (atTop K "InvalidGoal")) (.ref (atTop K "TooMany")) = some false
  k_InvalidGoal_RedoError : PySem.W.kitOne K (.ref (atTop K "InvalidGoal")) (.ref (atTop K "RedoError")) = some true
  k_InvalidGoal_ValueError : PySem.W.kitOne K (.ref (atTop K "InvalidGoal")) (.type "ValueError") = some true
  g_comb : mg "comb" = some (.builtin "math.comb")
  ns_InvalidGoal : PySem.W.subIn K (.ref (atTop K "InvalidGoal")) (.type "StopIteration") = some false
local macro_rules | `(tactic| walk_at "hp") => `(tactic| first
  | assumption
  | exact upd_same
  | ((refine (upd_ne (by assumption)).trans ?_); walk_at "hp")
  | ((refine (upd_ne (Ne.symm (by assumption))).trans ?_); walk_at "hp")
  | ((refine Rv.back (by assumption) ?_); walk_at "hp")
  | ((refine Rv.Wg.tup (by assumption) ?_); walk_at "hp")
  | ((refine Rv.Wg.lst (by assumption) (by assumption) ?_); walk_at "hp")
  | ((refine Rv.Wd.tup (by assumption) ?_); walk_at "hp")
  | ((refine Rv.Wd.lst (by assumption) (by assumption) ?_); walk_at "hp"))
local macro_rules | `(tactic| walk_at "r1") => `(tactic| (first
  | ((with_reducible refine' rd_var ?hv ?_); (case hv => exact rfl))
  | with_reducible refine rd_c ?_
  | with_reducible refine rd_seq ?_
  | with_reducible refine rd_next ?_
  | with_reducible refine rd_asg ?_
  | with_reducible refine rd_name ?_
  | with_reducible refine rd_op ?_
  | with_reducible refine rd_un ?_
  | with_reducible refine rd_U ?_
  | with_reducible refine rd_I0 ?_
  | ((with_reducible refine' rd_I ?hc ?_); (case hc => first | exact .inr ⟨by decide, by decide⟩ | exact .inl ⟨by decide, by decide⟩ | exact ⟨by decide, by decide, by decide⟩ | exact ⟨by decide, by decide⟩ | (show (_ : Int) ≠ _; decide) | assumption))
  | ((with_reducible refine' rd_eq ?hc ?_); (case hc => exact rfl))
  | ((with_reducible refine' rd_ne ?hc ?_); (case hc => exact rfl))
  | with_reducible refine rd_test ?_
  | with_reducible refine rd_B ?_
  | with_reducible refine rd_k ?_
  | with_reducible refine rd_not ?_
  | with_reducible refine rd_notV ?_
  | with_reducible refine rd_and ?_
  | with_reducible refine rd_or ?_
  | with_reducible refine rd_andV ?_
  | with_reducible refine rd_orV ?_
  | with_reducible refine rd_if ?_
  | with_reducible refine rd_chain ?_
  | with_reducible refine rd_sub ?_
  | with_reducible refine rd_gcons ?_
  | with_reducible refine rd_gnil ?_
  | with_reducible refine rd_ret ?_
  | with_reducible refine rd_drop ?_
  | with_reducible refine rd_ifS ?_
  | with_reducible refine rd_cons ?_
  | with_reducible refine rd_nil ?_
  | with_reducible refine rd_CB ?_
  | with_reducible refine rd_call ?_
  | with_reducible refine rd_tup ?_
  | with_reducible refine rd_lst ?_
  | with_reducible refine rd_yes ?_
  | with_reducible refine rd_M1 ?_
  | with_reducible refine rd_intQ ?_
  | with_reducible refine rd_absQ ?_
  | with_reducible refine rd_minQ ?_
  | ((with_reducible refine' rd_tupQ ?hz ?_); (case hz => walk_at "hp"))
  | ((with_reducible refine' rd_lstL ?hz ?_); (case hz => walk_at "hp"))
  | with_reducible refine rd_for ?_
  | with_reducible refine rd_lc ?_
  | with_reducible refine rd_iTup ?_
  | with_reducible refine rd_iList ?_
  | with_reducible refine rd_iEnT ?_
  | with_reducible refine rd_iEnS ?_
  | with_reducible refine rd_iZpS ?_
  | with_reducible refine rd_iRg1 ?_
  | ((with_reducible refine' rd_ItT ?hz ?_); (case hz => walk_at "hp"))
  | ((with_reducible refine' rd_ItL ?hz ?_); (case hz => walk_at "hp"))
  | ((with_reducible refine' rd_EnT ?hz ?_); (case hz => walk_at "hp"))
  | with_reducible refine rd_EnS ?_
  | with_reducible refine rd_ZpS ?_
  | ((with_reducible refine' rd_ixS ?hz ?he ?_); (case hz => assumption); (case he => assumption))
  | ((with_reducible refine' rd_lenZ ?hz ?_); (case hz => assumption))
  | ((with_reducible refine' rd_Rg1 ?hz ?_); (case hz => assumption))
  | with_reducible refine rd_sgn ?_
  | with_reducible refine rd_sl ?_
  | with_reducible refine rd_noP ?_
  | with_reducible refine rd_part ?_
  | with_reducible refine rd_i ?_
  | ((with_reducible refine' iteD ?hz ?_); (case hz => assumption))
  | ((with_reducible refine' iteE ?hz ?_); (case hz => assumption))
  | ((with_reducible refine' iteNS ?hz ?_); (case hz => assumption))
  | ((with_reducible refine' iteN2 ?hz ?_); (case hz => assumption))
  | with_reducible refine iteT ?_
  | with_reducible refine iteF ?_
  | with_reducible refine iteNT ?_
  | with_reducible refine iteNF ?_
  | ((with_reducible refine' rd_isiI ?hk ?_); (case hk => first | exact kit_ii | exact kit_ib))
  | ((with_reducible refine' rd_isiS ?hk ?_); (case hk => exact kit_ss))
  | ((with_reducible refine' rd_isiB ?hk ?_); (case hk => first | exact kit_bb | exact kit_bi))
  | ((with_reducible refine' rd_isiT ?hz ?hk ?_); (case hz => walk_at "hp"); (case hk => exact kit_tt))
  | ((with_reducible refine' rd_isiL ?hz ?hk ?_); (case hz => walk_at "hp"); (case hk => exact kit_ll))
  | ((with_reducible refine' rd_lenT ?hz ?_); (case hz => walk_at "hp"))
  | ((with_reducible refine' rd_lenL ?hz ?_); (case hz => walk_at "hp"))
  | ((with_reducible refine' rd_ixT ?hz ?he ?_); (case hz => walk_at "hp"); (case he => first | exact rfl | assumption))
  | ((with_reducible refine' rd_ixM ?hz ?he ?_); (case hz => walk_at "hp"); (case he => first | exact rfl | assumption))
  | ((with_reducible refine' rd_setL ?hz ?he ?_); (case hz => walk_at "hp"); (case he => first | exact rfl | assumption))
  | ((with_reducible refine' rd_gtup ?hz ?he ?_); (case hz => walk_at "hp"); (case he => first | exact rfl | assumption))
  ))
local macro_rules | `(tactic| walk_at "rd") => `(tactic| repeat (walk_at "r1"))
local macro_rules | `(tactic| walk_at "re") => `(tactic| repeat (first
  | walk_at "r1"
  | ((with_reducible refine' rd_BMv ?hv ?hz ?_); (case hv => exact rfl); (case hz => walk_at "hp"))
  | ((with_reducible refine' rd_app ?hz ?hl ?_); (case hz => walk_at "hp"); (case hl => assumption))
  | with_reducible refine rd_iEnum ?_
  | ((with_reducible refine' rd_EnL ?hz ?_); (case hz => walk_at "hp"))
  | with_reducible refine rd_iStr ?_
  | with_reducible refine rd_ItS ?_
  ))
local macro_rules | `(tactic| walk_at "rn") => `(tactic| repeat (first
  | walk_at "r1"
  | ((with_reducible refine' rd_BMv ?hv ?hz ?_); (case hv => exact rfl); (case hz => walk_at "hp"))
  | ((with_reducible refine' rd_app ?hz ?hl ?_); (case hz => walk_at "hp"); (case hl => assumption))
  | with_reducible refine rd_iEnum ?_
  | ((with_reducible refine' rd_EnL ?hz ?_); (case hz => walk_at "hp"))
  | with_reducible refine rd_iStr ?_
  | with_reducible refine rd_ItS ?_
  | with_reducible refine rd_isN ?_
  | with_reducible refine rd_M1g ?_
  | with_reducible refine rd_isS ?_
  | with_reducible refine rd_tjoin ?_
  | with_reducible refine rd_jsn ?_
  | with_reducible refine rd_match ?_
  | with_reducible refine rd_raise ?_
  | with_reducible refine rd_mkO ?_
  | with_reducible refine rd_callS ?_
  | with_reducible refine rd_xfQ ?_
  | with_reducible refine rd_tcNil ?_
  | with_reducible refine rd_iRg2 ?_
  | ((with_reducible refine' rd_Rg2 ?hz ?_); (case hz => assumption))
  | with_reducible refine rd_callR ?_
  | with_reducible refine rd_callD ?_
  | with_reducible refine rd_callSD ?_
  | with_reducible refine rd_tryM ?_
  | ((with_reducible refine' rd_isiN ?hk ?_); (case hk => exact kit_nt))
  | ((with_reducible refine' rd_truLv ?hv ?hz ?_); (case hv => exact rfl); (case hz => walk_at "hp"))
  | ((with_reducible refine' rd_inNums ?hz ?_); (case hz => assumption))
  | ((with_reducible refine' rd_lenNums ?hz ?_); (case hz => assumption))
  ))
local macro_rules | `(tactic| walk_at "rx") => `(tactic| repeat (first
  | ((with_reducible refine' rd_ixG ?hz ?he ?_); (case hz => assumption); (case he => assumption))
  | ((with_reducible refine' rd_lenG ?hz ?_); (case hz => assumption))
  | ((with_reducible refine' rd_isG ?hz ?_); (case hz => assumption))
  | with_reducible refine rd_iEnG ?_
  | with_reducible refine rd_tupN ?_
  | with_reducible refine rd_lstN ?_
  | with_reducible refine rd_dnew ?_
  | with_reducible refine rd_dget ?_
  | with_reducible refine rd_dput ?_
  | ((with_reducible refine' rd_DG ?hz ?he ?_); (case hz => walk_at "hp"); (case he => assumption))
  | ((with_reducible refine' rd_lstLN ?hz ?_); (case hz => walk_at "hp"))
  | ((with_reducible refine' rd_lstTN ?hz ?_); (case hz => walk_at "hp"))
  | ((with_reducible refine' rd_tupLN ?hz ?_); (case hz => walk_at "hp"))
  | with_reducible refine rd_lstRgN ?_
  | with_reducible refine rd_tupRgN ?_
  | with_reducible refine rd_tRg1 ?_
  | ((with_reducible refine' rd_slLN ?hz ?_); (case hz => walk_at "hp"))
  | walk_at "r1"
  | ((with_reducible refine' rd_BMv ?hv ?hz ?_); (case hv => exact rfl); (case hz => walk_at "hp"))
  | ((with_reducible refine' rd_app ?hz ?hl ?_); (case hz => walk_at "hp"); (case hl => assumption))
  | with_reducible refine rd_iEnum ?_
  | ((with_reducible refine' rd_EnL ?hz ?_); (case hz => walk_at "hp"))
  | with_reducible refine rd_iStr ?_
  | with_reducible refine rd_ItS ?_
  | with_reducible refine rd_isN ?_
  | with_reducible refine rd_M1g ?_
  | with_reducible refine rd_isS ?_
  | with_reducible refine rd_tjoin ?_
  | with_reducible refine rd_jsn ?_
  | with_reducible refine rd_match ?_
  | with_reducible refine rd_raise ?_
  | with_reducible refine rd_mkO ?_
  | with_reducible refine rd_callS ?_
  | with_reducible refine rd_xfQ ?_
  | with_reducible refine rd_tcNil ?_
  | with_reducible refine rd_iRg2 ?_
  | ((with_reducible refine' rd_Rg2 ?hz ?_); (case hz => assumption))
  | with_reducible refine rd_callR ?_
  | with_reducible refine rd_callD ?_
  | with_reducible refine rd_callSD ?_
  | with_reducible refine rd_tryM ?_
  | ((with_reducible refine' rd_isiN ?hk ?_); (case hk => exact kit_nt))
  | ((with_reducible refine' rd_truLv ?hv ?hz ?_); (case hv => exact rfl); (case hz => walk_at "hp"))
  | ((with_reducible refine' rd_inNums ?hz ?_); (case hz => assumption))
  | ((with_reducible refine' rd_lenNums ?hz ?_); (case hz => assumption))
  ))
section
variable {P : Program} {w : World} {K : PySem.W.Frag} {mg : Str → Option Value} {base : Heap}
def sp_law_bag (K : PySem.W.Frag) : Sp := fun vs H Q _ => ∃ (a : Addr) (ns : List Int), vs = [.ref a] ∧ SqL K H a (ns.map V.int) ∧ ns.length ≤ 63 ∧ ∀ H' B, IsBag B → B.I H' → Same H H' → Q (.ref B.b) H'
set_option maxHeartbeats 4000000 in
theorem ok_law_bag (T : Top K mg) {f : Addr} {fd : FuncData} (D : Def K mg "_law_bag" s_law_bag ["script"] f fd) : FnOk P w K mg base CX0 1 f fd ["script"] (sp_law_bag K) := by
  refine D.F.ok sc_law_bag (fun vs H Q E h => ?_) (fun cdv A outer s H vs Q E hr h => ?_)
  · obtain ⟨a, ns, rfl, _⟩ := h
    rfl
  · obtain ⟨a, ns, rfl, hS, hl, q⟩ := h
    refine ⟨_, (pss_cons (ps_setLc (i := 2) (own := [("cell", 1)]) (g := gName 1) (tt := tYes) rfl sc_law_bag.nd rfl rfl (sw_true rfl rfl rfl (by decide +kernel)) (pi_list (pe_slice sl_list (pv 0) po_none (po_some pe_int)))
      (blkOk_by (own := [("cell", 1)]) (N := ["script", "cell", "cells", "seed"]) (sc := defScope s_law_bag) (by decide +kernel)) (fun _ _ _ _ _ => (pg_name (i := 1) sc_law_bag.nd rfl (.inl rfl))) (fun _ _ _ _ _ => pts_nil)
      (fun _ _ _ _ _ => (pe_callTy call_intQ (by rfl) T.b_int (by decide +kernel) (pa_cons (pv 1) pa_nil))))
    (pss_cons (ps_set (i := 3) sc_law_bag.nd rfl (.inl rfl) pe_int)
    (pss_cons (ps_for PassesOwn.never rfl (pi_list (pv 2)) (pg_name (i := 1) sc_law_bag.nd rfl (.inl rfl)) (pss_one (ps_set (i := 3) sc_law_bag.nd rfl (.inl rfl) (pe_op op_modN (pe_callTy call_intQ (by rfl) T.b_int (by decide +kernel) (pa_cons (pe_op op_add (pe_op op_add (pe_op op_mul (pv 3) pe_int) (pe_op op_mul (pv 1) pe_int)) pe_int) pa_nil)) pe_int))))
    (pss_one (ps_ret (pe_lst (pa_cons (pv 2) (pa_cons pe_int (pa_cons pe_int (pa_cons (pv 3) (pa_cons pe_int pa_nil))))))))))), ?_⟩
    walk_at "rx"
    refine rd_slL hS fun l nl => ?_
    obtain ⟨ms, em, hm⟩ : ∃ ms : List Int, cutV (ns.map V.int) none (some 63) = ms.map V.int ∧ ms.length ≤ 63 := by
      refine ⟨ns.take (HT.sIx (ns.map V.int).length (ns.map V.int).length (some 63) - 0), ?_, ?_⟩
      · unfold cutV
        show List.take _ (List.drop 0 (ns.map V.int)) = _
        rw [List.drop_zero, List.map_take]
        rfl
      · rw [List.length_take]
        omega
    rw [em]
    obtain ⟨H1, eH, S1, h1⟩ := new_gen (.lst (ms.map V.int)) nl
    rw [← eH]
    walk_at "rx"
    refine lc_map (walk_list (xs := ms.map V.int)) (ms.map V.int) ?_ ?_ (fun H' S => SqL.of (S _ _ h1)) ?_ ?_
    · rfl
    · rw [List.length_map]
      omega
    · rintro i x H3 H4 Qc R hi S ⟨rfl, ex⟩ qc
      have ex0 := ex
      have hi2 : i < ms.length := by rw [List.length_map] at hi; exact hi
      rw [List.getElem?_map, List.getElem?_eq_getElem hi2] at ex
      cases ex
      walk_at "rx"
      refine ⟨rfl, ?_⟩
      walk_at "rx"
      exact qc _ _ (Same.refl _) ex0
    · intro H3 D S nD hD
      walk_at "rx"
      refine fr_it (walk_list (xs := ms.map V.int)) (fun i σ H' => ∃ (y1 : Option V) (s : Int), σ = [some (.ref a), y1, some (.ref D), some (.int s)] ∧ H' = H3) ⟨none, 7, rfl, rfl⟩ (fun i σ H' _ p => ?_) ?_ ?_
      · obtain ⟨_, _, _, rfl⟩ := p
        exact SqL.of hD
      · rintro i x σ Ha Hb hi ⟨y1, s, rfl, rfl⟩ ⟨eH, ex⟩
        subst eH
        have hi2 : i < ms.length := by rw [List.length_map] at hi; exact hi
        rw [List.getElem?_map, List.getElem?_eq_getElem hi2] at ex
        cases ex
        walk_at "rx"
        exact ⟨_, _, rfl, rfl⟩
      · rintro σ Ha ⟨y1, s, rfl, rfl⟩
        walk_at "rx"
        refine rd_newQ (by simp) fun H4 p S4 np hp => ?_
        have n : p ≠ D := fun z => by rw [z, hD] at np; cases np
        exact q H4 (bgL p D ms n) ⟨p, D, ms, n, rfl⟩ ⟨S4 _ _ hD, 0, 0, s, 0, hp, Int.le_refl _⟩ ((S1.trans S).trans S4)
def sp_law_take (_K : PySem.W.Frag) : Sp := fun vs H Q _ => ∃ (B : Box) (m : Int), vs = [.ref B.b, .int m] ∧ IsBag B ∧ B.I H ∧ 0 < m ∧ m ≤ 10 ^ 30 ∧ ∀ H' (d : Nat), Wg B H H' → (d : Int) < m → Q (.int d) H'
set_option maxHeartbeats 4000000 in
theorem ok_law_take (T : Top K mg) {f : Addr} {fd : FuncData} (D : Def K mg "_law_take" s_law_take ["bag", "many"] f fd) : FnOk P w K mg base CX0 1 f fd ["bag", "many"] (sp_law_take K) := by
  refine D.F.ok sc_law_take (fun vs H Q E h => ?_) (fun cdv A outer s H vs Q E hr h => ?_)
  · obtain ⟨B, m, rfl, _⟩ := h
    rfl
  · obtain ⟨B, m, rfl, ⟨b, c, ns, nbc, rfl⟩, i0, m0, m1, q0⟩ := h
    have q : ∀ H' (d : Int), Wg (bgL b c ns nbc) H H' → 0 ≤ d → d < m → Q (.int d) H' := fun H' d w h0 h1 => by
      have z := q0 H' d.toNat w (by omega)
      rw [show ((d.toNat : Nat) : Int) = d by omega] at z
      exact z
    have w0 := Wg.refl i0
    have ⟨hc, i, bu, se, cn, hb, hi0⟩ := i0
    have m9 : m ≠ 0 := by omega
    show _
    refine ⟨_, (pss_cons (ps_asg (pe_op op_add (pe_ix (r := rIxL K) ix_list (pv 0) pe_int (fun _ _ => rfl)) pe_int) (pg_sub (pv 0) pe_int set_list))
    (C8.pss_cut (ps_if (PW.pt (pw_and (pt_cmpR op_eq (pe_ix (r := rIxL K) ix_list (pv 0) pe_int (fun _ _ => rfl)) pe_int (nomark _)) (pw_and1 (pt_cmpR op_lt (pe_ix (r := rIxL K) ix_list (pv 0) pe_int (fun _ _ => rfl)) (pe_callB (r := rLenQ K) call_lenQ (by rfl) T.b_len PySem.boot_len (pa_cons (pe_ix (r := rIxL K) ix_list (pv 0) pe_int (fun _ _ => rfl)) pa_nil)) (nomark _))))) (pss_cons (ps_set (i := 2) sc_law_take.nd rfl (.inl rfl) (pe_callTy call_intQ (by rfl) T.b_int (by decide +kernel) (pa_cons (pe_ix (r := rIxL K) ix_list (pe_ix (r := rIxL K) ix_list (pv 0) pe_int (fun _ _ => rfl)) (pe_ix (r := rIxL K) ix_list (pv 0) pe_int (fun _ _ => rfl)) (fun _ _ => rfl)) pa_nil)))
    (pss_cons (ps_asg (pe_op op_add (pe_ix (r := rIxL K) ix_list (pv 0) pe_int (fun _ _ => rfl)) pe_int) (pg_sub (pv 0) pe_int set_list))
    (pss_one (ps_if (pt_cmpR op_ge (pv 2) (pe_op op_pow pe_int pe_int) (nomark _)) (pss_one (ps_asg (pv 2) (pg_sub (pv 0) pe_int set_list))) (pss_one (ps_asg (pe_op op_modN (pe_callTy call_intQ (by rfl) T.b_int (by decide +kernel) (pa_cons (pe_op op_add (pe_op op_add (pe_op op_mul (pe_ix (r := rIxL K) ix_list (pv 0) pe_int (fun _ _ => rfl)) pe_int) (pe_op op_mul (pv 2) pe_int)) (pe_ix (r := rIxL K) ix_list (pv 0) pe_int (fun _ _ => rfl))) pa_nil)) pe_int) (pg_sub (pv 0) pe_int set_list))))))) pss_nil)
    (pss_cons (ps_if (pt_cmpR op_gt (pe_ix (r := rIxL K) ix_list (pv 0) pe_int (fun _ _ => rfl)) pe_int (nomark _)) (pss_cons (ps_set (i := 3) sc_law_take.nd rfl (.inl rfl) (pe_op op_modN (pe_callTy call_intQ (by rfl) T.b_int (by decide +kernel) (pa_cons (pe_ix (r := rIxL K) ix_list (pv 0) pe_int (fun _ _ => rfl)) pa_nil)) (pv 1)))
    (pss_cons (ps_asg (pe_op op_fdivV (pe_callTy call_intQ (by rfl) T.b_int (by decide +kernel) (pa_cons (pe_ix (r := rIxL K) ix_list (pv 0) pe_int (fun _ _ => rfl)) pa_nil)) (pv 1)) (pg_sub (pv 0) pe_int set_list))
    (pss_one (ps_ret (pv 3))))) pss_nil)
    (pss_cons (ps_set (i := 4) sc_law_take.nd rfl (.inl rfl) (pe_op op_modN (pe_callTy call_intQ (by rfl) T.b_int (by decide +kernel) (pa_cons (pe_op op_add (pe_op op_add (pe_op op_mul (pe_ix (r := rIxL K) ix_list (pv 0) pe_int (fun _ _ => rfl)) pe_int) (pe_op op_mul (pe_ix (r := rIxL K) ix_list (pv 0) pe_int (fun _ _ => rfl)) pe_int)) pe_int) pa_nil)) pe_int))
    (pss_cons (ps_set (i := 5) sc_law_take.nd rfl (.inl rfl) (pe_op op_modN (pe_callTy call_intQ (by rfl) T.b_int (by decide +kernel) (pa_cons (pe_op op_add (pe_op op_add (pe_op op_mul (pv 4) (pv 4)) (pe_op op_mul (pe_ix (r := rIxL K) ix_list (pv 0) pe_int (fun _ _ => rfl)) pe_int)) (pe_op op_mul (pe_ix (r := rIxL K) ix_list (pv 0) pe_int (fun _ _ => rfl)) pe_int)) pa_nil)) pe_int))
    (pss_one (ps_ret (pe_op op_modN (pe_callTy call_intQ (by rfl) T.b_int (by decide +kernel) (pa_cons (pe_op op_fdivN (pv 5) pe_int) pa_nil)) (pv 1))))))))), ?_⟩
    have hvb : (bgL b c ns nbc).b = b := rfl
    rw [hvb]
    walk_at "rx"
    have w1 : Wg (bgL b c ns nbc) H (upd H b (.lst ([V.ref c, .int i, .int bu, .int se, .int cn].set 4 (.int (cn + 1))))) := bgL_put w0 hi0
    refine ⟨fun σ' H' => ∃ y2, σ' = [some (.ref b), some (.int m), y2, none, none, none] ∧ Wg (bgL b c ns nbc) H H', ?_, ?_⟩
    · walk_at "rx"
      refine ite2 (fun z => ?_) (fun z => ?_)
      · walk_at "rx"
        refine ite2 (fun x => ?_) (fun x => ?_)
        · have y1 : i < ((ns.map V.int).length : Int) := of_decide_eq_true x
          obtain ⟨v, e1, e2, e3⟩ := atI_int hi0 y1
          obtain ⟨k, _, rfl⟩ := List.mem_map.mp e3
          walk_at "rx"
          refine ite2 (fun u => ?_) (fun u => ?_)
          · walk_at "rx"
            exact ⟨_, rfl, bgL_put (bgL_put (bgL_put w0 hi0) (by omega)) (by omega)⟩
          · walk_at "rx"
            exact ⟨_, rfl, bgL_put (bgL_put (bgL_put w0 hi0) (by omega)) (by omega)⟩
        · walk_at "rx"
          exact ⟨_, rfl, w1⟩
      · walk_at "rx"
        exact ⟨_, rfl, w1⟩
    · rintro σ' H' ⟨y2, rfl, w⟩
      have ⟨hc', i', bu', se', cn', hb', hi'⟩ := w.i1
      walk_at "rx"
      refine ite2 (fun z => ?_) (fun z => ?_)
      · walk_at "rx"
        refine rd_I (show CDivV bu' m from ⟨m0, m1⟩) ?_
        walk_at "rx"
        exact q _ _ (bgL_put w hi') (fmod_in m0).1 (fmod_in m0).2
      · have cm : ∀ a b : Int, CMul (a.fmod 2147483647) b := fun a b => .inl ⟨by have := fmod_in (a := a) (m := 2147483647) (by decide); omega, by have := fmod_in (a := a) (m := 2147483647) (by decide); omega⟩
        walk_at "rx"
        refine rd_I (cm _ _) ?_
        walk_at "rx"
        exact q _ _ w (fmod_in m0).1 (fmod_in m0).2
def sp_law_goal (_K : PySem.W.Frag) : Sp := fun vs H Q _ => ∃ (B : Box), vs = [.ref B.b] ∧ IsBag B ∧ B.I H ∧
  ∀ H' l gs, Wg B H H' → H' l = some (.tup (gs.map V.int)) → GOk gs → Q (.ref l) H'
set_option maxHeartbeats 4000000 in
theorem ok_law_goal (T : Top K mg) {f : Addr} {fd : FuncData} (D : Def K mg "_law_goal" s_law_goal ["bag"] f fd) : FnOk P w K mg base CX0 2 f fd ["bag"] (sp_law_goal K) := by
  obtain ⟨f_law_take, fd_law_take, D_law_take⟩ := T.d__law_take
  have G_law_take : FnOk P w K mg base CX0 1 f_law_take fd_law_take ["bag", "many"] (sp_law_take K) := ok_law_take T D_law_take
  refine D.F.ok sc_law_goal (fun vs H Q E h => ?_) (fun cdv A outer s H vs Q E hr h => ?_)
  · obtain ⟨B, rfl, _⟩ := h
    rfl
  · obtain ⟨B, rfl, hB, i0, q⟩ := h
    refine ⟨_, (pss_cons (ps_set (i := 1) sc_law_goal.nd rfl (.inr rfl) (pe_op op_add pe_int (pe_call G_law_take hr (by rfl) D_law_take.g D_law_take.F.kp D_law_take.b .nil pass0 (pa_cons (pv 0) (pa_cons pe_int pa_nil)))))
    (pss_cons (ps_set (i := 2) sc_law_goal.nd rfl (.inl rfl) (pe_call G_law_take hr (by rfl) D_law_take.g D_law_take.F.kp D_law_take.b .nil pass0 (pa_cons (pv 0) (pa_cons pe_int pa_nil))))
    (pss_cons (ps_if (pt_cmpR op_eq (pv 2) pe_int (nomark _)) (pss_one (ps_ret (pe_callTy (r := rTupQ K) call_tupQ (by rfl) T.b_tuple (by decide +kernel) (pa_cons (pe_lc (own := [("block", 3)]) (g := gName 3) (tt := tYes) rfl sc_law_goal.nd (pi_range1 (by rfl) T.b_range (pa_cons (pv 1) pa_nil))
      (blkOk_by (own := [("block", 3)]) (N := ["bag", "blocks", "way", "block", "goal", "turn", "place", "root", "movers", "stays"]) (sc := defScope s_law_goal) (by decide +kernel)) (fun _ _ _ _ _ => (pg_name (i := 3) sc_law_goal.nd rfl (.inl rfl))) (fun _ _ _ _ _ => pts_nil)
      (fun _ _ _ _ _ => (pe_call G_law_take hr (by rfl) D_law_take.g D_law_take.F.kp D_law_take.b .nil pass0 (pa_cons (pv 0) (pa_cons (pv 1) pa_nil))))) pa_nil)))) pss_nil)
    (pss_cons (ps_setLc (i := 4) (own := [("block", 3)]) (g := gName 3) (tt := tYes) rfl sc_law_goal.nd rfl rfl (sw_true rfl rfl rfl (by decide +kernel)) (pi_range1 (by rfl) T.b_range (pa_cons (pv 1) pa_nil))
      (blkOk_by (own := [("block", 3)]) (N := ["bag", "blocks", "way", "block", "goal", "turn", "place", "root", "movers", "stays"]) (sc := defScope s_law_goal) (by decide +kernel)) (fun _ _ _ _ _ => (pg_name (i := 3) sc_law_goal.nd rfl (.inl rfl))) (fun _ _ _ _ _ => pts_nil)
      (fun _ _ _ _ _ => (pv 3)))
    (pss_cons (ps_if (pt_cmpR op_eq (pv 2) pe_int (nomark _)) (pss_cons (ps_for PassesOwn.never rfl (pi_range1 (by rfl) T.b_range (pa_cons (pe_op op_add pe_int (pe_call G_law_take hr (by rfl) D_law_take.g D_law_take.F.kp D_law_take.b .nil pass0 (pa_cons (pv 0) (pa_cons pe_int pa_nil)))) pa_nil)) (pg_name (i := 5) sc_law_goal.nd rfl (.inl rfl)) (pss_cons (ps_set (i := 6) sc_law_goal.nd rfl (.inl rfl) (pe_call G_law_take hr (by rfl) D_law_take.g D_law_take.F.kp D_law_take.b .nil pass0 (pa_cons (pv 0) (pa_cons (pv 1) pa_nil))))
    (pss_one (ps_asg (pe_call G_law_take hr (by rfl) D_law_take.g D_law_take.F.kp D_law_take.b .nil pass0 (pa_cons (pv 0) (pa_cons (pv 1) pa_nil))) (pg_sub (pv 4) (pv 6) set_list)))))
    (pss_one (ps_ret (pe_callTy (r := rTupQ K) call_tupQ (by rfl) T.b_tuple (by decide +kernel) (pa_cons (pv 4) pa_nil))))) pss_nil)
    (pss_cons (ps_set (i := 7) sc_law_goal.nd rfl (.inr rfl) (pe_call G_law_take hr (by rfl) D_law_take.g D_law_take.F.kp D_law_take.b .nil pass0 (pa_cons (pv 0) (pa_cons (pv 1) pa_nil))))
    (pss_cons (ps_set (i := 8) sc_law_goal.nd rfl (.inr rfl) (pe_lc (own := [("block", 3)]) (g := gName 3) (tt := _) rfl sc_law_goal.nd (pi_list (pv 4))
      (blkOk_by (own := [("block", 3)]) (N := ["bag", "blocks", "way", "block", "goal", "turn", "place", "root", "movers", "stays"]) (sc := defScope s_law_goal) (by decide +kernel)) (fun _ _ _ _ _ => (pg_name (i := 3) sc_law_goal.nd rfl (.inl rfl))) (fun _ _ _ _ _ => pts_one (PW.pt (pw_and (pt_cmpR op_eq (pe_call G_law_take hr (by rfl) D_law_take.g D_law_take.F.kp D_law_take.b .nil pass0 (pa_cons (pv 0) (pa_cons pe_int pa_nil))) pe_int (nomark _)) (pw_and1 (pt_cmpR op_ne (pv 3) (pv 7) (nomark _))))))
      (fun _ _ _ _ _ => (pv 3))))
    (pss_cons (ps_setLc (i := 9) (own := [("block", 3)]) (g := gName 3) (tt := _) rfl sc_law_goal.nd rfl rfl (sw_true rfl rfl rfl (by decide +kernel)) (pi_list (pv 4))
      (blkOk_by (own := [("block", 3)]) (N := ["bag", "blocks", "way", "block", "goal", "turn", "place", "root", "movers", "stays"]) (sc := defScope s_law_goal) (by decide +kernel)) (fun _ _ _ _ _ => (pg_name (i := 3) sc_law_goal.nd rfl (.inl rfl))) (fun _ _ _ _ _ => pts_one (pt_cmpR (r := rIn K true) op_notIn_seq (pv 3) (pv 8) (by rfl)))
      (fun _ _ _ _ _ => (pv 3)))
    (pss_cons (ps_for PassesOwn.never rfl (pi_list (pv 8)) (pg_name (i := 3) sc_law_goal.nd rfl (.inl rfl)) (pss_one (ps_asg (pe_ix (r := rIxL K) ix_list (pv 9) (pe_call G_law_take hr (by rfl) D_law_take.g D_law_take.F.kp D_law_take.b .nil pass0 (pa_cons (pv 0) (pa_cons (pe_callB (r := rLenQ K) call_lenQ (by rfl) T.b_len PySem.boot_len (pa_cons (pv 9) pa_nil)) pa_nil))) (fun _ _ => rfl)) (pg_sub (pv 4) (pv 3) set_list))))
    (pss_one (ps_ret (pe_callTy (r := rTupQ K) call_tupQ (by rfl) T.b_tuple (by decide +kernel) (pa_cons (pv 4) pa_nil))))))))))))), ?_⟩
    walk_at "rx"
    refine ⟨B, 12, rfl, hB, i0, by decide, by decide, fun H1 nb w1 hnb => ?_⟩
    have hrn : -100000 ≤ 1 + (nb : Int) ∧ 1 + (nb : Int) ≤ 100000 := by omega
    obtain ⟨n, en, n1, n12⟩ : ∃ n : Nat, 1 + (nb : Int) = (n : Int) ∧ 1 ≤ n ∧ n ≤ 12 := ⟨1 + nb, by omega, by omega, by omega⟩
    have hrn : -100000 ≤ (n : Int) ∧ (n : Int) ≤ 100000 := by omega
    have ok : ∀ gs : List Int, gs.length = n → (∀ e ∈ gs, 0 ≤ e ∧ e < (n : Int)) → GOk gs := fun gs lg ig => ⟨by omega, by omega, by rw [lg]; exact ig⟩
    have idr : ∀ e ∈ niz ((List.range n).map id), 0 ≤ e ∧ e < (n : Int) := fun e he => by
      obtain ⟨b, rfl, hb⟩ := niz_of he
      rw [List.map_id, List.mem_range] at hb
      omega
    have idl : (niz ((List.range n).map id)).length = n := by rw [niz_len, List.length_map, List.length_range]
    walk_at "rx"
    rw [en]
    walk_at "rx"
    refine ⟨B, 4, rfl, hB, w1.i1, by decide, by decide, fun H2 wy w2 hwy => ?_⟩
    have w02 := w1.trans w2
    walk_at "rx"
    refine ite2 (fun z => ?_) (fun z => ?_)
    · walk_at "rx"
      refine lc_wg (B := B) walk_rng w02.i1 (fun i acc _ => ∃ ks : List Int, acc = ks.map V.int ∧ ks.length = i ∧ i ≤ n ∧ ∀ e ∈ ks, 0 ≤ e ∧ e < (n : Int)) (fun _ _ => ⟨[], rfl, rfl, Nat.zero_le _, fun e he => by simp at he⟩) (fun i acc Ha Hb _ pp => pp) (fun i acc H' pp => by
        obtain ⟨ks, rfl, lk, ln, _⟩ := pp
        rw [List.length_map]
        omega) (fun _ _ => trivial) ?_ ?_
      · rintro i x Hx Hy acc Qc R hi wx ⟨ks, rfl, lk, ln, ik⟩ ⟨rfl, rfl⟩ qc rc
        walk_at "rx"
        refine ⟨rfl, ?_⟩
        walk_at "rx"
        refine ⟨B, n, rfl, hB, wx.i1, by omega, by omega, fun H5 e w5 he => ?_⟩
        refine qc _ _ w5 ⟨ks ++ [(e : Int)], by rw [List.map_append]; rfl, by rw [List.length_append, List.length_singleton, lk], by omega, fun x hx => ?_⟩
        rcases List.mem_append.mp hx with k | k
        · exact ik x k
        · rw [List.mem_singleton.mp k]; omega
      · rintro H3 D acc w3 nD hD ⟨ks, rfl, lk, ln, ik⟩
        have l0 : (ks.map V.int).length ≤ 1000 := by rw [List.length_map]; omega
        walk_at "rx"
        refine rd_newL fun H4 T S4 nT hT => ?_
        exact q H4 T ks ((w02.trans w3).same S4) hT (ok ks (by omega) ik)
    · walk_at "rx"
      refine lc_map walk_rng (hvs id n) ?_ ?_ (fun _ _ => trivial) ?_ ?_
      · rw [hvs_len]; omega
      · omega
      · rintro i x Hx Hy Qc R hi Sx ⟨rfl, rfl⟩ qc
        walk_at "rx"
        refine ⟨rfl, ?_⟩
        walk_at "rx"
        exact qc _ _ (Same.refl _) (hvs_get (h := id) (by omega))
      · intro H3 Go S3 nG3 hGo
        have w03 := w02.same S3
        have nGo := w02.free nG3
        have mGo : Go ∉ B.m := B.nem w02.i1 nG3
        have hGo : H3 Go = some (.lst ((niz ((List.range n).map id)).map V.int)) := hGo
        walk_at "rx"
        refine ite2 (fun z1 => ?_) (fun z1 => ?_)
        · walk_at "rx"
          refine ⟨B, 3, rfl, hB, w03.i1, by decide, by decide, fun H4 d w4 hd => ?_⟩
          have w04 := w03.trans w4
          have hG4 := w4.lst mGo hGo
          have hr4 : -100000 ≤ 1 + (d : Int) ∧ 1 + (d : Int) ≤ 100000 := by omega
          walk_at "rx"
          refine fr_rng0 (fun j σ H' => ∃ (gs : List Int) (y5 y6 : Option V), σ = [some (.ref B.b), some (.int (n : Int)), some (.int (wy : Int)), none, some (.ref Go), y5, y6, none, none, none] ∧ Wg B H H' ∧ H' Go = some (.lst (gs.map V.int)) ∧ gs.length = n ∧ ∀ e ∈ gs, 0 ≤ e ∧ e < (n : Int))
            ⟨niz ((List.range n).map id), _, _, rfl, w04, hG4, idl, idr⟩ ?_ ?_
          · rintro j σ H5 hj ⟨gs, y5, y6, rfl, w5, h5, lg, ig⟩
            walk_at "rx"
            refine ⟨B, n, rfl, hB, w5.i1, by omega, by omega, fun H6 pl w6 hpl => ?_⟩
            have h6 := w6.lst mGo h5
            walk_at "rx"
            refine ⟨B, n, rfl, hB, w6.i1, by omega, by omega, fun H7 vl w7 hvl => ?_⟩
            have h7 := w7.lst mGo h6
            have hix : ixN (gs.map V.int).length (pl : Int) = some pl := ixN_of rfl (by rw [List.length_map]; omega)
            walk_at "rx"
            refine ⟨gs.set pl (vl : Int), _, _, rfl, ((w5.trans w6).trans w7).mut nGo, by rw [upd_same, List.map_set], by rw [List.length_set, lg], fun x hx => ?_⟩
            rcases List.mem_or_eq_of_mem_set hx with k | k
            · exact ig x k
            · rw [k]; omega
          · rintro σ H5 ⟨gs, y5, y6, rfl, w5, h5, lg, ig⟩
            have l0 : (gs.map V.int).length ≤ 1000 := by rw [List.length_map]; omega
            walk_at "rx"
            refine rd_newL fun H6 T S6 nT hT => ?_
            exact q H6 T gs (w5.same S6) hT (ok gs lg ig)
        · walk_at "rx"
          refine ⟨B, n, rfl, hB, w03.i1, by omega, by omega, fun H4 rt w4 hrt => ?_⟩
          have w04 := w03.trans w4
          have hG4 := w4.lst mGo hGo
          walk_at "rx"
          refine lc_wg (B := B) (walk_list (xs := (niz ((List.range n).map id)).map V.int)) w04.i1 (fun i acc _ => ∃ ks : List Int, acc = ks.map V.int ∧ ks.length ≤ i ∧ i ≤ n ∧ ∀ e ∈ ks, 0 ≤ e ∧ e < (n : Int) ∧ e ≠ (rt : Int)) (fun _ _ => ⟨[], rfl, Nat.le_refl _, Nat.zero_le _, fun e he => by simp at he⟩) (fun i acc Ha Hb _ pp => pp) (fun i acc H' pp => by
            obtain ⟨ks, rfl, lk, ln, _⟩ := pp
            rw [List.length_map]
            omega) (fun H' w => SqL.of (w.lst mGo hG4)) ?_ ?_
          · rintro i x Hx Hy acc Qc R hi wx ⟨ks, rfl, lk, ln, ik⟩ ⟨rfl, ex⟩ qc rc
            have hi2 : i < n := by rw [List.length_map, idl] at hi; exact hi
            have exi : x = .int (i : Int) := by
              rw [List.getElem?_map] at ex
              unfold niz at ex
              rw [List.getElem?_map, List.getElem?_map, List.getElem?_range hi2] at ex
              cases ex
              rfl
            subst exi
            walk_at "rx"
            refine ⟨rfl, ?_⟩
            walk_at "rx"
            refine ⟨B, 2, rfl, hB, wx.i1, by decide, by decide, fun H5 d w5 hd => ?_⟩
            walk_at "rx"
            refine ite2 (fun z2 => ?_) (fun z2 => ?_)
            · walk_at "rx"
              by_cases y : i = rt
              · rw [decide_eq_true (show V.int (i : Int) = V.int (rt : Int) by rw [y])]
                show if false = true then _ else _
                exact rc _ w5 ⟨ks, rfl, by omega, by omega, ik⟩
              · rw [decide_eq_false (show ¬ V.int (i : Int) = V.int (rt : Int) from fun w => y (by have := V.int.inj w; omega))]
                show if true = true then _ else _
                walk_at "rx"
                refine qc _ _ w5 ⟨ks ++ [(i : Int)], by rw [List.map_append]; rfl, by rw [List.length_append, List.length_singleton]; omega, by omega, fun x hx => ?_⟩
                rcases List.mem_append.mp hx with k | k
                · exact ik x k
                · rw [List.mem_singleton.mp k]; omega
            · exact rc _ w5 ⟨ks, rfl, by omega, by omega, ik⟩
          · rintro H5 Mo acc w5 nMo hMo ⟨ks, rfl, lk, ln, ik⟩
            have w05 := w04.trans w5
            have mMo := B.nem w04.i1 nMo
            have hG5 := w5.lst mGo hG4
            walk_at "rx"
            refine lc_acc (walk_list (xs := (niz ((List.range n).map id)).map V.int)) (fun i acc => ∃ ls : List Int, acc = ls.map V.int ∧ ls.length ≤ i ∧ i ≤ n ∧ (∀ e ∈ ls, 0 ≤ e ∧ e < (n : Int)) ∧ (rt < i → (rt : Int) ∈ ls)) ⟨[], rfl, Nat.le_refl _, Nat.zero_le _, fun e he => by simp at he, fun z => absurd z (Nat.not_lt_zero _)⟩ (fun i acc hi pp => by
              obtain ⟨ls, rfl, lk, ln, _⟩ := pp
              rw [List.length_map]
              omega) (fun H' S => SqL.of (S _ _ hG5)) ?_ ?_
            · rintro i x Hx Hy acc Qc R hi Sx ⟨ls, rfl, ll, ln, il, rl⟩ ⟨rfl, ex⟩ qc rc
              have hi2 : i < n := by rw [List.length_map, idl] at hi; exact hi
              have exi : x = .int (i : Int) := by
                rw [List.getElem?_map] at ex
                unfold niz at ex
                rw [List.getElem?_map, List.getElem?_map, List.getElem?_range hi2] at ex
                cases ex
                rfl
              subst exi
              have hMx := Sx _ _ hMo
              walk_at "rx"
              refine ⟨rfl, ?_⟩
              walk_at "rx"
              refine rd_ninLf hMx rfl (flat_ints _) ?_
              rw [inV_ints]
              refine ⟨_, rfl, ?_⟩
              by_cases z2 : (i : Int) ∈ ks
              · rw [decide_eq_true z2]
                show if false = true then _ else _
                refine rc _ (Same.refl _) ⟨ls, rfl, by omega, by omega, il, fun w => rl ?_⟩
                have : ¬ rt = i := fun e => (ik _ z2).2.2 (by rw [e])
                omega
              · rw [decide_eq_false z2]
                show if true = true then _ else _
                walk_at "rx"
                refine qc _ _ (Same.refl _) ⟨ls ++ [(i : Int)], by rw [List.map_append]; rfl, by rw [List.length_append, List.length_singleton]; omega, by omega, fun x hx => ?_, fun w => List.mem_append.mpr ?_⟩
                · rcases List.mem_append.mp hx with k | k
                  · exact il x k
                  · rw [List.mem_singleton.mp k]; omega
                · by_cases e : rt = i
                  · exact .inr (by rw [e]; exact List.mem_singleton.mpr rfl)
                  · exact .inl (rl (by omega))
            · rintro H6 St acc S6 nSt hSt ⟨ls, rfl, ll, ln, il, rl⟩
              rw [List.length_map, idl] at rl ll
              have w06 := w05.same S6
              have mSt := B.nem w05.i1 nSt
              have hG6 := S6 _ _ hG5
              have hM6 := S6 _ _ hMo
              have lp : 0 < ls.length := List.length_pos_of_mem (rl (by omega))
              have ngm : Mo ≠ Go := fun e => by rw [e, hG4] at nMo; cases nMo
              have ngs : St ≠ Go := fun e => by rw [e, hG5] at nSt; cases nSt
              walk_at "rx"
              refine fr_it (walk_list (xs := ks.map V.int)) (fun j σ H' => ∃ (gs : List Int) (y3 : Option V), σ = [some (.ref B.b), some (.int (n : Int)), some (.int (wy : Int)), y3, some (.ref Go), none, none, some (.int (rt : Int)), some (.ref Mo), some (.ref St)] ∧ Wg B H H' ∧ H' Go = some (.lst (gs.map V.int)) ∧ H' Mo = some (.lst (ks.map V.int)) ∧ H' St = some (.lst (ls.map V.int)) ∧ gs.length = n ∧ ∀ e ∈ gs, 0 ≤ e ∧ e < (n : Int))
                ⟨niz ((List.range n).map id), none, rfl, w06, hG6, hM6, hSt, idl, idr⟩ (fun j σ H' _ pp => by obtain ⟨_, _, _, _, _, h, _⟩ := pp; exact SqL.of h) ?_ ?_
              · rintro j x σ H7 H8 hj ⟨gs, y3, rfl, w7, h7, hM7, hS7, lg, ig⟩ ⟨rfl, ex⟩
                have hj2 : j < ks.length := by rw [List.length_map] at hj; exact hj
                rw [List.getElem?_map, List.getElem?_eq_getElem hj2] at ex
                cases ex
                have bk := ik _ (List.getElem_mem hj2)
                generalize ks[j] = k0 at *
                walk_at "rx"
                refine ⟨B, _, rfl, hB, w7.i1, by rw [List.length_map]; omega, by rw [List.length_map]; omega, fun H9 d w9 hd => ?_⟩
                rw [List.length_map] at hd
                have h9 := w9.lst mGo h7
                have hM9 := w9.lst mMo hM7
                have hS9 := w9.lst mSt hS7
                have ae : atI (ls.map V.int) (d : Int) = some (.int (ls.getD d 0)) := atI_ints (by omega) (by omega)
                have ml := il _ (getD_mem (es := ls) (k := d) (by omega))
                have hix : ixN (gs.map V.int).length k0 = some k0.toNat := ixN_of (by omega) (by rw [List.length_map]; omega)
                walk_at "rx"
                refine ⟨gs.set k0.toNat (ls.getD d 0), _, rfl, (w7.trans w9).mut nGo, by rw [upd_same, List.map_set], ?_, ?_, by rw [List.length_set, lg], fun x hx => ?_⟩
                · rw [upd_ne ngm]; exact hM9
                · rw [upd_ne ngs]; exact hS9
                · rcases List.mem_or_eq_of_mem_set hx with k | k
                  · exact ig x k
                  · rw [k]; exact ml
              · rintro σ H7 ⟨gs, y3, rfl, w7, h7, hM7, hS7, lg, ig⟩
                have l0 : (gs.map V.int).length ≤ 1000 := by rw [List.length_map]; omega
                walk_at "rx"
                refine rd_newL fun H8 T S8 nT hT => ?_
                exact q H8 T gs (w7.same S8) hT (ok gs lg ig)
def sp_law_odd_entry (_K : PySem.W.Frag) : Sp := fun vs H Q _ => ∃ (B : Box) (n : Nat), vs = [.ref B.b, .int (n : Int)] ∧ IsBag B ∧ B.I H ∧ 1 ≤ n ∧ n ≤ 12 ∧ ∀ H' v, Wg B H H' → OddV H' v → ¬ NumOk n v → Q v H'
set_option maxHeartbeats 4000000 in
theorem ok_law_odd_entry (T : Top K mg) {f : Addr} {fd : FuncData} (D : Def K mg "_law_odd_entry" s_law_odd_entry ["bag", "blocks"] f fd) : FnOk P w K mg base CX0 2 f fd ["bag", "blocks"] (sp_law_odd_entry K) := by
  obtain ⟨f_law_take, fd_law_take, D_law_take⟩ := T.d__law_take
  have G_law_take : FnOk P w K mg base CX0 1 f_law_take fd_law_take ["bag", "many"] (sp_law_take K) := ok_law_take T D_law_take
  refine D.F.ok sc_law_odd_entry (fun vs H Q E h => ?_) (fun cdv A outer s H vs Q E hr h => ?_)
  · obtain ⟨B, n, rfl, _⟩ := h
    rfl
  · obtain ⟨B, n, rfl, hB, i0, n1, n12, q⟩ := h
    have no : ∀ i : Int, (i < 0 ∨ (n : Int) ≤ i) → ¬ NumOk n (.int i) := fun i hi ⟨e, h1, h2, h3⟩ => by cases h1; omega
    refine ⟨_, (pss_cons (ps_set (i := 2) sc_law_odd_entry.nd rfl (.inl rfl) (pe_call G_law_take hr (by rfl) D_law_take.g D_law_take.F.kp D_law_take.b .nil pass0 (pa_cons (pv 0) (pa_cons pe_int pa_nil))))
    (pss_cons (ps_set (i := 3) sc_law_odd_entry.nd rfl (.inl rfl) (pe_call G_law_take hr (by rfl) D_law_take.g D_law_take.F.kp D_law_take.b .nil pass0 (pa_cons (pv 0) (pa_cons (pe_op op_pow pe_int pe_int) pa_nil))))
    (pss_cons (ps_if (pt_cmpR op_eq (pv 2) pe_int (nomark _)) (pss_one (ps_ret (pv 1))) pss_nil)
    (pss_cons (ps_if (pt_cmpR op_eq (pv 2) pe_int (nomark _)) (pss_one (ps_ret (pe_op op_add (pe_op op_add (pv 1) pe_int) (pv 3)))) pss_nil)
    (pss_cons (ps_if (pt_cmpR op_eq (pv 2) pe_int (nomark _)) (pss_one (ps_ret (pe_un un_neg pe_int))) pss_nil)
    (pss_cons (ps_if (pt_cmpR op_eq (pv 2) pe_int (nomark _)) (pss_one (ps_ret (pe_op op_sub (pe_un un_neg pe_int) (pv 3)))) pss_nil)
    (pss_cons (ps_if (pt_cmpR op_eq (pv 2) pe_int (nomark _)) (pss_one (ps_ret (pe_callTy call_strQ (by rfl) T.b_str (by decide +kernel) (pa_cons (pe_call G_law_take hr (by rfl) D_law_take.g D_law_take.F.kp D_law_take.b .nil pass0 (pa_cons (pv 0) (pa_cons pe_int pa_nil))) pa_nil)))) pss_nil)
    (pss_cons (ps_if (pt_cmpR op_eq (pv 2) pe_int (nomark _)) (pss_one (ps_ret (pe_tup (pa_cons (pe_call G_law_take hr (by rfl) D_law_take.g D_law_take.F.kp D_law_take.b .nil pass0 (pa_cons (pv 0) (pa_cons (pv 1) pa_nil))) pa_nil)))) pss_nil)
    (pss_cons (ps_if (pt_cmpR op_eq (pv 2) pe_int (nomark _)) (pss_one (ps_ret pe_non)) pss_nil)
    (pss_one (ps_ret (pe_un un_neg (pv 1))))))))))))), ?_⟩
    walk_at "rx"
    refine ⟨B, 8, rfl, hB, i0, by decide, by decide, fun H1 pk w1 hpk => ?_⟩
    walk_at "rx"
    refine ⟨B, (10 : Int) ^ ((30 : Int).toNat), rfl, hB, w1.i1, by decide +kernel, by decide +kernel, fun H2 far w2 hfar => ?_⟩
    clear hfar
    have w02 := w1.trans w2
    walk_at "rx"
    refine ite2 (fun z0 => ?_) (fun z0 => ?_)
    · walk_at "rx"
      exact q H2 _ w02 (.inl ⟨_, rfl⟩) (no _ (.inr (Int.le_refl _)))
    walk_at "rx"
    refine ite2 (fun z1 => ?_) (fun z1 => ?_)
    · walk_at "rx"
      exact q H2 _ w02 (.inl ⟨_, rfl⟩) (no _ (.inr (by omega)))
    walk_at "rx"
    refine ite2 (fun z2 => ?_) (fun z2 => ?_)
    · walk_at "rx"
      exact q H2 _ w02 (.inl ⟨_, rfl⟩) (no _ (.inl (by omega)))
    walk_at "rx"
    refine ite2 (fun z3 => ?_) (fun z3 => ?_)
    · walk_at "rx"
      exact q H2 _ w02 (.inl ⟨_, rfl⟩) (no _ (.inl (by omega)))
    walk_at "rx"
    refine ite2 (fun z4 => ?_) (fun z4 => ?_)
    · walk_at "rx"
      refine ⟨B, 10, rfl, hB, w02.i1, by decide, by decide, fun H3 d w3 hd => ?_⟩
      walk_at "rx"
      refine rd_strQ (by omega) (by omega) ?_
      exact q H3 _ (w02.trans w3) (.inr (.inl ⟨_, rfl⟩)) (fun ⟨e, h1, _⟩ => by cases h1)
    walk_at "rx"
    refine ite2 (fun z5 => ?_) (fun z5 => ?_)
    · walk_at "rx"
      refine ⟨B, n, rfl, hB, w02.i1, by omega, by omega, fun H3 d w3 hd => ?_⟩
      walk_at "rx"
      refine rd_newQ (by simp) fun H4 T S4 nT hT => ?_
      exact q H4 _ ((w02.trans w3).same S4) (.inr (.inr (.inr ⟨T, _, rfl, hT⟩))) (fun ⟨e, h1, _⟩ => by cases h1)
    walk_at "rx"
    refine ite2 (fun z6 => ?_) (fun z6 => ?_)
    · walk_at "rx"
      exact q H2 _ w02 (.inr (.inr (.inl rfl))) (fun ⟨e, h1, _⟩ => by cases h1)
    walk_at "rx"
    exact q H2 _ w02 (.inl ⟨_, rfl⟩) (no _ (.inl (by omega)))
theorem str_fin : ∀ k : Fin 12, (Str.ofString (toString ((k.val : Nat) : Int))).length ≤ 2 := by decide +kernel
theorem str_two {i : Int} (h0 : 0 ≤ i) (h1 : i < 12) : (Str.ofString (toString i)).length ≤ 2 := by
  have := str_fin ⟨i.toNat, by omega⟩
  rw [show ((i.toNat : Nat) : Int) = i by omega] at this
  exact this
theorem sum_two : ∀ {ns : List Int}, (∀ e ∈ ns, 0 ≤ e ∧ e < 12) → ((ns.map fun i => Str.ofString (toString i)).map (·.length)).sum ≤ 2 * ns.length
  | [], _ => Nat.le_refl _
  | x :: r, h => by
    have h1 := sum_two (ns := r) fun e he => h e (List.mem_cons_of_mem _ he)
    have h2 := str_two (h x (List.mem_cons_self ..)).1 (h x (List.mem_cons_self ..)).2
    rw [List.map_cons, List.map_cons, List.sum_cons, List.length_cons]
    omega
def sp_law_spoilt (_K : PySem.W.Frag) : Sp := fun vs H Q _ => ∃ (B : Box) (a : Addr) (ns : List Int), vs = [.ref B.b, .ref a] ∧ IsBag B ∧ B.I H ∧ H a = some (.tup (ns.map V.int)) ∧ GOk ns ∧ ∀ H' D v k, Wg B H H' → D ∉ B.m → H' D = some (.lst [v, .int k]) → GoalBad B.m H' v k → Q (.ref D) H'
set_option maxHeartbeats 4000000 in
theorem ok_law_spoilt (T : Top K mg) {f : Addr} {fd : FuncData} (D : Def K mg "_law_spoilt" s_law_spoilt ["bag", "goal"] f fd) : FnOk P w K mg base CX0 3 f fd ["bag", "goal"] (sp_law_spoilt K) := by
  obtain ⟨f_law_take, fd_law_take, D_law_take⟩ := T.d__law_take
  have G_law_take : FnOk P w K mg base CX0 1 f_law_take fd_law_take ["bag", "many"] (sp_law_take K) := ok_law_take T D_law_take
  obtain ⟨f_law_odd_entry, fd_law_odd_entry, D_law_odd_entry⟩ := T.d__law_odd_entry
  have G_law_odd_entry : FnOk P w K mg base CX0 2 f_law_odd_entry fd_law_odd_entry ["bag", "blocks"] (sp_law_odd_entry K) := ok_law_odd_entry T D_law_odd_entry
  refine D.F.ok sc_law_spoilt (fun vs H Q E h => ?_) (fun cdv A outer s H vs Q E hr h => ?_)
  · obtain ⟨B, a, ns, rfl, _⟩ := h
    rfl
  · obtain ⟨B, a, ns, rfl, hB, i0, ha, G, q⟩ := h
    have l1 := G.l1
    have l12 := G.l12
    have ln : (ns.map V.int).length = ns.length := List.length_map _
    have e12 : ∀ e ∈ ns, 0 ≤ e ∧ e < 12 := fun e he => by have := G.en e he; omega
    refine ⟨_, (pss_cons (ps_set (i := 2) sc_law_spoilt.nd rfl (.inl rfl) (pe_call G_law_take (hr.mono (by decide)) (by rfl) D_law_take.g D_law_take.F.kp D_law_take.b .nil pass0 (pa_cons (pv 0) (pa_cons pe_int pa_nil))))
    (pss_cons (ps_set (i := 3) sc_law_spoilt.nd rfl (.inl rfl) (pe_callB (r := rLenQ K) call_lenQ (by rfl) T.b_len PySem.boot_len (pa_cons (pv 1) pa_nil)))
    (pss_cons (ps_if (pt_cmpR op_eq (pv 2) pe_int (nomark _)) (pss_one (ps_ret (pe_lst (pa_cons (pe_callTy (r := rLstQ K) call_lstQ (by rfl) T.b_list (by decide +kernel) (pa_cons (pv 1) pa_nil)) (pa_cons (pe_un un_neg pe_int) pa_nil))))) pss_nil)
    (pss_cons (ps_if (pt_cmpR op_eq (pv 2) pe_int (nomark _)) (pss_one (ps_ret (pe_lst (pa_cons (pv 3) (pa_cons (pe_un un_neg pe_int) pa_nil))))) pss_nil)
    (pss_cons (ps_if (pt_cmpR op_eq (pv 2) pe_int (nomark _)) (pss_one (ps_ret (pe_lst (pa_cons (pe_join pe_str (pe_lc (own := [("entry", 7)]) (g := gName 7) (tt := tYes) rfl sc_law_spoilt.nd (pi_tup (pv 1))
      (blkOk_by (own := [("entry", 7)]) (N := ["bag", "goal", "pick", "blocks", "row", "early", "late", "entry"]) (sc := defScope s_law_spoilt) (by decide +kernel)) (fun _ _ _ _ _ => (pg_name (i := 7) sc_law_spoilt.nd rfl (.inl rfl))) (fun _ _ _ _ _ => pts_nil)
      (fun _ _ _ _ _ => (pe_callTy call_strQ (by rfl) T.b_str (by decide +kernel) (pa_cons (pv 7) pa_nil))))) (pa_cons (pe_un un_neg pe_int) pa_nil))))) pss_nil)
    (pss_cons (ps_if (pt_cmpR op_eq (pv 2) pe_int (nomark _)) (pss_one (ps_ret (pe_lst (pa_cons pe_non (pa_cons (pe_un un_neg pe_int) pa_nil))))) pss_nil)
    (pss_cons (ps_if (pt_cmpR op_eq (pv 2) pe_int (nomark _)) (pss_one (ps_ret (pe_lst (pa_cons (pe_tup pa_nil) (pa_cons (pe_un un_neg pe_int) pa_nil))))) pss_nil)
    (pss_cons (ps_if (pt_cmpR op_eq (pv 2) pe_int (nomark _)) (pss_one (ps_ret (pe_lst (pa_cons (pe_op (r := rRepT K) op_repT (pe_tup (pa_cons pe_int pa_nil)) (pe_op op_add pe_int (pe_call G_law_take (hr.mono (by decide)) (by rfl) D_law_take.g D_law_take.F.kp D_law_take.b .nil pass0 (pa_cons (pv 0) (pa_cons pe_int pa_nil))))) (pa_cons (pe_un un_neg pe_int) pa_nil))))) pss_nil)
    (pss_cons (ps_set (i := 4) sc_law_spoilt.nd rfl (.inl rfl) (pe_callTy (r := rLstQ K) call_lstQ (by rfl) T.b_list (by decide +kernel) (pa_cons (pv 1) pa_nil)))
    (pss_cons (ps_set (i := 5) sc_law_spoilt.nd rfl (.inl rfl) (pe_call G_law_take (hr.mono (by decide)) (by rfl) D_law_take.g D_law_take.F.kp D_law_take.b .nil pass0 (pa_cons (pv 0) (pa_cons (pv 3) pa_nil))))
    (pss_cons (ps_set (i := 6) sc_law_spoilt.nd rfl (.inl rfl) (pe_op op_add (pv 5) (pe_call G_law_take (hr.mono (by decide)) (by rfl) D_law_take.g D_law_take.F.kp D_law_take.b .nil pass0 (pa_cons (pv 0) (pa_cons (pe_op op_sub (pv 3) (pv 5)) pa_nil)))))
    (pss_cons (ps_asg (pe_call G_law_odd_entry hr (by rfl) D_law_odd_entry.g D_law_odd_entry.F.kp D_law_odd_entry.b .nil pass0 (pa_cons (pv 0) (pa_cons (pv 3) pa_nil))) (pg_sub (pv 4) (pv 6) set_list))
    (pss_cons (ps_asg (pe_call G_law_odd_entry hr (by rfl) D_law_odd_entry.g D_law_odd_entry.F.kp D_law_odd_entry.b .nil pass0 (pa_cons (pv 0) (pa_cons (pv 3) pa_nil))) (pg_sub (pv 4) (pv 5) set_list))
    (pss_one (ps_ret (pe_lst (pa_cons (pe_callTy (r := rTupQ K) call_tupQ (by rfl) T.b_tuple (by decide +kernel) (pa_cons (pv 4) pa_nil)) (pa_cons (pv 5) pa_nil)))))))))))))))))), ?_⟩
    walk_at "rx"
    refine ⟨B, 12, rfl, hB, i0, by decide, by decide, fun H1 pk w1 hpk => ?_⟩
    have ha1 := w1.tup ha
    have fin : ∀ {H2 : Hp} (v : V), Wg B H H2 → GoalBad B.m H2 v (-1) → ∀ H9 D, Same H2 H9 → H2 D = none → H9 D = some (.lst [v, .int (-1)]) → Q (.ref D) H9 := fun {H2} v w2 bad H9 D S9 nD hD => q H9 D v (-1) (w2.same S9) (B.nem w2.i1 nD) hD (bad.same S9)
    walk_at "rx"
    refine ite2 (fun z0 => ?_) (fun z0 => ?_)
    · walk_at "rx"
      refine rd_newL fun H2 l S2 nl hl => ?_
      walk_at "rx"
      refine rd_newQ (by simp) fun H9 D S9 nD hD => fin _ (w1.same S2) (.inl ⟨rfl, .inr (.inr (.inr (.inl ⟨l, _, rfl, B.nem w1.i1 nl, hl⟩)))⟩) H9 D S9 nD hD
    walk_at "rx"
    refine ite2 (fun z1 => ?_) (fun z1 => ?_)
    · walk_at "rx"
      refine rd_newQ (by simp) fun H9 D S9 nD hD => fin _ w1 (.inl ⟨rfl, .inr (.inl ⟨_, rfl⟩)⟩) H9 D S9 nD hD
    walk_at "rx"
    refine ite2 (fun z2 => ?_) (fun z2 => ?_)
    · walk_at "rx"
      refine lc_map (walk_tup (xs := ns.map V.int)) ((ns.map fun i => Str.ofString (toString i)).map V.str) ?_ ?_ (fun H' S => SqT.of (S _ _ ha1)) ?_ ?_
      · rw [List.length_map, List.length_map, List.length_map]
      · omega
      · rintro i x Hx Hy Qc R hi Sx ⟨rfl, ex⟩ qc
        have hi2 : i < ns.length := by rw [ln] at hi; exact hi
        rw [List.getElem?_map, List.getElem?_eq_getElem hi2] at ex
        cases ex
        have ei := e12 _ (List.getElem_mem hi2)
        walk_at "rx"
        refine ⟨rfl, ?_⟩
        walk_at "rx"
        refine ⟨_, rfl, Nat.lt_of_le_of_lt (Nat.log2_le_self _) (by omega), ?_⟩
        exact qc _ _ (Same.refl _) (by rw [List.getElem?_map, List.getElem?_map, List.getElem?_eq_getElem hi2]; rfl)
      · intro H2 D S2 nD hD
        have s2 := sum_two e12
        refine ⟨_, D, (ns.map fun i => Str.ofString (toString i)), rfl, rfl, .inl (SqL.of hD), by rw [List.length_map]; show _ + _ * 0 ≤ _; omega, ?_⟩
        walk_at "rx"
        refine rd_newQ (by simp) fun H9 D9 S9 nD9 hD9 => fin _ (w1.same S2) (.inl ⟨rfl, .inr (.inr (.inl ⟨_, rfl⟩))⟩) H9 D9 S9 nD9 hD9
    walk_at "rx"
    refine ite2 (fun z3 => ?_) (fun z3 => ?_)
    · walk_at "rx"
      refine rd_newQ (by simp) fun H9 D S9 nD hD => fin _ w1 (.inl ⟨rfl, .inl rfl⟩) H9 D S9 nD hD
    walk_at "rx"
    refine ite2 (fun z4 => ?_) (fun z4 => ?_)
    · walk_at "rx"
      refine rd_newQ (by simp) fun H2 t S2 nt ht => ?_
      walk_at "rx"
      refine rd_newQ (by simp) fun H9 D S9 nD hD => fin _ (w1.same S2) (.inl ⟨rfl, .inr (.inr (.inr (.inr ⟨t, [], rfl, ht, .inl rfl, by decide⟩)))⟩) H9 D S9 nD hD
    walk_at "rx"
    refine ite2 (fun z5 => ?_) (fun z5 => ?_)
    · walk_at "rx"
      refine rd_newQ (by simp) fun H2 t S2 nt ht => ?_
      have w2 := w1.same S2
      walk_at "rx"
      refine ⟨B, 8, rfl, hB, w2.i1, by decide, by decide, fun H3 d w3 hd => ?_⟩
      have ht3 := w3.tup ht
      walk_at "rx"
      refine rd_repT ht3 (by simp) (by omega) (by omega) (by simp) ?_
      refine rd_newL fun H4 t4 S4 nt4 ht4 => ?_
      have lr : (List.replicate (13 + (d : Int)).toNat [V.int 0]).flatten.length = 13 + d := by
        rw [List.length_flatten, List.map_replicate, List.sum_replicate_nat]
        simp
        omega
      walk_at "rx"
      refine rd_newQ (by simp) fun H9 D S9 nD hD => fin _ ((w2.trans w3).same S4) (.inl ⟨rfl, .inr (.inr (.inr (.inr ⟨t4, _, rfl, ht4, .inr (by omega), by omega⟩)))⟩) H9 D S9 nD hD
    walk_at "rx"
    refine rd_newL fun H2 R S2 nR hR => ?_
    have w2 := w1.same S2
    have mR := B.nem w1.i1 nR
    have nR0 := w1.free nR
    walk_at "rx"
    refine ⟨B, _, rfl, hB, w2.i1, by omega, by omega, fun H3 early w3 he => ?_⟩
    walk_at "rx"
    refine ⟨B, _, rfl, hB, w3.i1, by omega, by omega, fun H4 more w4 hm => ?_⟩
    have w04 := (w2.trans w3).trans w4
    have hR4 := (w3.trans w4).lst mR hR
    rw [ln] at he hm
    have em : (early : Int) + (more : Int) = ((early + more : Nat) : Int) := by omega
    have l1' : early + more < ns.length := by omega
    walk_at "rx"
    rw [em]
    refine ⟨B, ns.length, by rw [ln], hB, w04.i1, l1, l12, fun H5 v1 w5 o1 no1 => ?_⟩
    have hR5 := w5.lst mR hR4
    have hix : ixN (ns.map V.int).length ((early + more : Nat) : Int) = some (early + more) := ixN_of rfl (by rw [ln]; exact l1')
    walk_at "rx"
    have k6 : Kt H5 (upd H5 R (.lst ((ns.map V.int).set (early + more) v1))) := Kt.mut hR5
    have w6 : Wg B H (upd H5 R (.lst ((ns.map V.int).set (early + more) v1))) := (w04.trans w5).mut nR0
    have hR6 : (upd H5 R (.lst ((ns.map V.int).set (early + more) v1))) R = some (.lst ((ns.map V.int).set (early + more) v1)) := upd_same
    have o6 := o1.kt k6
    generalize upd H5 R (.lst ((ns.map V.int).set (early + more) v1)) = H6 at *
    refine ⟨B, ns.length, by rw [ln], hB, w6.i1, l1, l12, fun H7 v2 w7 o2 no2 => ?_⟩
    have hR7 := w7.lst mR hR6
    have hix2 : ixN ((ns.map V.int).set (early + more) v1).length (early : Int) = some early := ixN_of rfl (by rw [List.length_set, ln]; omega)
    have o7 := o6.kt (Kt.wg w7)
    walk_at "rx"
    have k8 := Kt.mut (o := .lst (((ns.map V.int).set (early + more) v1).set early v2)) hR7
    have w8 : Wg B H (upd H7 R (.lst (((ns.map V.int).set (early + more) v1).set early v2))) := (w6.trans w7).mut nR0
    have o18 := o7.kt k8
    have o28 := o2.kt k8
    generalize upd H7 R (.lst (((ns.map V.int).set (early + more) v1).set early v2)) = H8 at *
    have hlx : (((ns.map V.int).set (early + more) v1).set early v2).length = ns.length := by rw [List.length_set, List.length_set, ln]
    have l0 : (((ns.map V.int).set (early + more) v1).set early v2).length ≤ 1000 := by omega
    refine rd_newL fun H9 T S9 nT hT => ?_
    have w9 := w8.same S9
    walk_at "rx"
    refine rd_newQ (by simp) fun Ha D Sa nD hD => ?_
    have S8a := S9.trans Sa
    refine q Ha D (.ref T) early (w9.same Sa) (B.nem w9.i1 nD) hD (.inr ⟨T, _, early, rfl, Sa _ _ hT, by omega, by omega, fun x hx => ?_, rfl, ⟨v2, ?_, ?_⟩, fun i x hi ex => ?_⟩)
    · rcases List.mem_or_eq_of_mem_set hx with k | k
      · rcases List.mem_or_eq_of_mem_set k with k | k
        · obtain ⟨e, _, rfl⟩ := List.mem_map.mp k
          exact .inl ⟨e, rfl⟩
        · rw [k]
          exact o18.kt (Kt.same S8a)
      · rw [k]
        exact o28.kt (Kt.same S8a)
    · rw [List.getElem?_set_self (by rw [List.length_set, ln]; omega)]
    · rw [hlx]
      exact no2
    · rw [List.getElem?_set_ne (by omega), List.getElem?_set_ne (by omega), List.getElem?_map] at ex
      rw [List.getElem?_eq_getElem (show i < ns.length by omega)] at ex
      cases ex
      rw [hlx]
      exact ⟨_, rfl, G.en _ (List.getElem_mem _)⟩
def spcount_safe_goals (_K : PySem.W.Frag) : Sp := fun vs H Q _ => ∃ b : Nat, vs = [.int (b : Int)] ∧ b ≤ 12 ∧ Q (.int (csg b b)) H
set_option maxHeartbeats 4000000 in
theorem okcount_safe_goals (T : Top K mg) {f : Addr} {fd : FuncData} (D : Def K mg "count_safe_goals" scount_safe_goals ["blocks"] f fd) : FnOk P w K mg base CX0 1 f fd ["blocks"] (spcount_safe_goals K) := by
  refine D.F.ok sccount_safe_goals (fun vs H Q E h => ?_) (fun cdv A outer s H vs Q E hr h => ?_)
  · obtain ⟨b, rfl, _⟩ := h
    rfl
  · obtain ⟨b, rfl, b12, q⟩ := h
    refine ⟨_, (pss_cons (ps_set (i := 1) sccount_safe_goals.nd rfl (.inl rfl) pe_int)
    (pss_cons (ps_for PassesOwn.never rfl (pi_range2 (by rfl) T.b_range (pa_cons pe_int (pa_cons (pe_op op_add (pv 0) pe_int) pa_nil))) (pg_name (i := 2) sccount_safe_goals.nd rfl (.inl rfl)) (pss_cons (ps_set (i := 3) sccount_safe_goals.nd rfl (.inl rfl) (pe_callBfun (r := rComb) cr_comb (by rfl) T.g_comb (pa_cons (pv 0) (pa_cons (pv 2) pa_nil))))
    (pss_cons (ps_for PassesOwn.never rfl (pi_range1 (by rfl) T.b_range (pa_cons (pe_op op_sub (pv 0) (pv 2)) pa_nil)) (pg_name (i := 4) sccount_safe_goals.nd rfl (.inl rfl)) (pss_one (ps_set (i := 3) sccount_safe_goals.nd rfl (.inl rfl) (pe_op op_mul (pv 3) (pv 2)))))
    (pss_one (ps_set (i := 1) sccount_safe_goals.nd rfl (.inl rfl) (pe_op op_add (pv 1) (pv 3)))))))
    (pss_one (ps_ret (pv 1))))), ?_⟩
    walk_at "rx"
    refine rd_Rg2 (by omega) ?_
    refine fr_rng (fun i σ H' => ∃ (y2 y3 y4 : Option V), σ = [some (.int (b : Int)), some (.int (csg b i)), y2, y3, y4] ∧ H' = H) ⟨none, none, none, rfl, rfl⟩ ?_ ?_
    · rintro i σ H1 hi ⟨y2, y3, y4, rfl, rfl⟩
      have ib : i + 1 ≤ b := by omega
      rw [show (1 : Int) + (i : Int) = ((i + 1 : Nat) : Int) by omega]
      walk_at "rx"
      refine rd_comb (by omega) (by omega) ?_
      have hrr : -100000 ≤ (b : Int) - ((i + 1 : Nat) : Int) ∧ (b : Int) - ((i + 1 : Nat) : Int) ≤ 100000 := by omega
      walk_at "rx"
      refine fr_rng0 (fun j σ H' => ∃ (y4 : Option V), σ = [some (.int (b : Int)), some (.int (csg b i)), some (.int ((i + 1 : Nat) : Int)), some (.int (PySem.W.mcComb b ((i + 1 : Nat) : Int) * ((i + 1 : Nat) : Int) ^ j)), y4] ∧ H' = H1) ⟨y4, by rw [Int.pow_zero, Int.mul_one]; rfl, rfl⟩ ?_ ?_
      · rintro j σ H2 hj ⟨y4, rfl, rfl⟩
        walk_at "rx"
        refine rd_I (show CMul _ _ from .inr ⟨by omega, by omega⟩) ?_
        rw [mul_pow]
        exact ⟨_, rfl, rfl⟩
      · rintro σ H2 ⟨y4, rfl, rfl⟩
        walk_at "rx"
        rw [show ((b : Int) - ((i + 1 : Nat) : Int)).toNat = b - (i + 1) by omega]
        exact ⟨_, _, _, rfl, rfl⟩
    · rintro σ H1 ⟨y2, y3, y4, rfl, rfl⟩
      rw [show ((b : Int) + 1 - 1).toNat = b by omega]
      walk_at "rx"
      exact q
def sp_law_every (K : PySem.W.Frag) : Sp := fun vs H Q _ => ∃ n : Nat, vs = [.int (n : Int)] ∧ 1 ≤ n ∧ n ≤ 4 ∧ ∀ H' l bs, Same H H' → H l = none → H' l = some (.lst (bs.map V.ref)) → NRows H' bs (ev n n) → Q (.ref l) H'
set_option maxHeartbeats 4000000 in
theorem ok_law_every (T : Top K mg) {f : Addr} {fd : FuncData} (D : Def K mg "_law_every" s_law_every ["blocks"] f fd) : FnOk P w K mg base CX0 1 f fd ["blocks"] (sp_law_every K) := by
  refine D.F.ok sc_law_every (fun vs H Q E h => ?_) (fun cdv A outer s H vs Q E hr h => ?_)
  · obtain ⟨n, rfl, _⟩ := h
    rfl
  · obtain ⟨n, rfl, n1, n4, q⟩ := h
    have hrn : -100000 ≤ (n : Int) ∧ (n : Int) ≤ 100000 := by omega
    refine ⟨_, (pss_cons (ps_set (i := 1) sc_law_every.nd rfl (.inl rfl) (pe_lst (pa_cons (pe_tup pa_nil) pa_nil)))
    (pss_cons (ps_for PassesOwn.never rfl (pi_range1 (by rfl) T.b_range (pa_cons (pv 0) pa_nil)) (pg_name (i := 2) sc_law_every.nd rfl (.inl rfl)) (pss_cons (ps_set (i := 3) sc_law_every.nd rfl (.inl rfl) (pe_lst pa_nil))
    (pss_cons (ps_for PassesOwn.never rfl (pi_list (pv 1)) (pg_name (i := 4) sc_law_every.nd rfl (.inl rfl)) (pss_one (ps_for PassesOwn.never rfl (pi_range1 (by rfl) T.b_range (pa_cons (pv 0) pa_nil)) (pg_name (i := 5) sc_law_every.nd rfl (.inl rfl)) (pss_one (ps_expr (pe_bm PySem.F.plainAttrs_list PySem.F.slot_list_append PySem.F.type_list_append mt_append (pv 3) (pa_cons (pe_op (r := rCat3 K) op_cat3 (pv 4) (pe_tup (pa_cons (pv 5) pa_nil))) pa_nil)))))))
    (pss_one (ps_set (i := 1) sc_law_every.nd rfl (.inl rfl) (pv 3))))))
    (pss_one (ps_ret (pv 1))))), ?_⟩
    walk_at "rx"
    refine rd_newQ (by simp) fun H1 a S1 na ha => ?_
    walk_at "rx"
    refine rd_newQ (by simp) fun H2 l S2 nl hl => ?_
    have ha2 := S2 _ _ ha
    walk_at "rx"
    refine fr_rng0 (fun i σ H' => ∃ (fl : Addr) (bs : List Addr) (y2 y3 y4 y5 : Option V), σ = [some (.int (n : Int)), some (.ref fl), y2, y3, y4, y5] ∧ Same H H' ∧ H fl = none ∧ H' fl = some (.lst (bs.map V.ref)) ∧ NRows H' bs (ev n i))
      ⟨l, [a], none, none, none, none, rfl, S1.trans S2, S1.free nl, hl, TupsAt.app TupsAt.nil ha2⟩ ?_ ?_
    · rintro i σ H3 hi ⟨fl, bs, y2, y3, y4, y5, rfl, S3, nf, hf, t3⟩
      have hi4 : i + 1 ≤ 4 := by omega
      have le := ev_le (k := i + 1) n4 hi4
      rw [ev_evc, evc_len] at le
      have lb := t3.len
      walk_at "rx"
      refine rd_newQ (by simp) fun H4 lo S4 nlo hlo => ?_
      have nlo0 := S3.free nlo
      walk_at "rx"
      refine fr_it (walk_list (xs := bs.map V.ref)) (fun m σ H' => ∃ (cs : List Addr) (y4 y5 : Option V), σ = [some (.int (n : Int)), some (.ref fl), some (.int (i : Int)), some (.ref lo), y4, y5] ∧ Same H H' ∧ H' fl = some (.lst (bs.map V.ref)) ∧ NRows H' bs (ev n i) ∧ H' lo = some (.lst (cs.map V.ref)) ∧ NRows H' cs (evc n ((ev n i).take m)))
        ⟨[], _, _, rfl, S3.trans S4, S4 _ _ hf, t3.same S4, hlo, by rw [List.take_zero]; exact TupsAt.nil⟩ (fun m σ H' _ pp => ?_) ?_ ?_
      · obtain ⟨_, _, _, _, _, h, _⟩ := pp
        exact SqL.of h
      · rintro m x σ H5 H6 hm ⟨cs, y4, y5, rfl, S5, hf5, t5, hlo5, tc5⟩ ⟨rfl, ex⟩
        rw [List.length_map] at hm
        have hm2 : m < (ev n i).length := by omega
        have er : (ev n i)[m]? = some (ev n i)[m] := List.getElem?_eq_getElem hm2
        obtain ⟨b, e1, e2⟩ := NRows.at t5 er
        rw [List.getElem?_map, e1] at ex
        cases ex
        have lr := (mem_ev.mp (List.getElem_mem hm2)).1
        have nfl : fl ≠ lo := fun e => by rw [e] at hf; rw [hf] at nlo; cases nlo
        have lmm : (m + 1) * n ≤ (ev n i).length * n := Nat.mul_le_mul_right n hm2
        rw [Nat.add_mul] at lmm
        walk_at "rx"
        refine fr_rng0 (fun t σ H' => ∃ (cs : List Addr) (y5 : Option V), σ = [some (.int (n : Int)), some (.ref fl), some (.int (i : Int)), some (.ref lo), some (.ref b), y5] ∧ Same H H' ∧ H' fl = some (.lst (bs.map V.ref)) ∧ NRows H' bs (ev n i) ∧ H' lo = some (.lst (cs.map V.ref)) ∧ NRows H' cs (evc n ((ev n i).take m) ++ (List.range t).map fun x => (ev n i)[m] ++ [x]) ∧ H' b = some (.tup (nvs (ev n i)[m])))
          ⟨cs, _, rfl, S5, hf5, t5, hlo5, by rw [List.range_zero, List.map_nil, List.append_nil]; exact tc5, e2⟩ ?_ ?_
        · rintro t σ H7 ht ⟨cs7, y5, rfl, S7, hf7, t7, hlo7, tc7, hb7⟩
          have lc := tc7.len
          rw [List.length_append, evc_len, List.length_map, List.length_range, List.length_take, Nat.min_eq_left (by omega)] at lc
          walk_at "rx"
          refine rd_newQ (by simp) fun H8 p8 S8 n8 h8 => ?_
          refine rd_cat3 (S8 _ _ hb7) h8 (by rw [nvs_len, lr, List.length_singleton]; omega) fun H9 p9 S9 h9 => ?_
          have S79 := S8.trans S9
          have hlo9 := S79 _ _ hlo7
          have lcs : (cs7.map V.ref).length < 1000 := by rw [List.length_map]; omega
          have h9 : H9 p9 = some (.tup (nvs ((ev n i)[m] ++ [t]))) := by rw [h9, nvs_app]; rfl
          walk_at "rx"
          refine ⟨cs7 ++ [p9], _, rfl, same_mut (S7.trans S79) nlo0, ?_, (t7.same S79).kt (Kt.mut hlo9), ?_, ?_, ?_⟩
          · rw [upd_ne nfl]
            exact S79 _ _ hf7
          · rw [upd_same, List.map_append]
            rfl
          · rw [rng_snoc, ← List.append_assoc]
            exact ((tc7.same S79).snoc h9).kt (Kt.mut hlo9)
          · rw [upd_ne (fun e => by rw [e, hlo7] at hb7; cases hb7)]
            exact S79 _ _ hb7
        · rintro σ H7 ⟨cs7, y5, rfl, S7, hf7, t7, hlo7, tc7, hb7⟩
          refine ⟨cs7, _, _, rfl, S7, hf7, t7, hlo7, ?_⟩
          rw [show ((n : Nat) : Int).toNat = n by omega] at tc7
          rw [List.take_succ, er]
          show NRows H7 cs7 (evc n ((ev n i).take m ++ [(ev n i)[m]]))
          rw [evc_snoc]
          exact tc7
      · rintro σ H5 ⟨cs, y4, y5, rfl, S5, hf5, t5, hlo5, tc5⟩
        rw [List.length_map, lb, List.take_length] at tc5
        walk_at "rx"
        exact ⟨lo, cs, _, _, _, _, rfl, S5, nlo0, hlo5, tc5⟩
    · rintro σ H3 ⟨fl, bs, y2, y3, y4, y5, rfl, S3, nf, hf, t3⟩
      walk_at "rx"
      rw [show ((n : Nat) : Int).toNat = n by omega] at t3
      exact q H3 fl bs S3 nf hf t3
def sp_law_is_number (_K : PySem.W.Frag) : Sp := fun vs H Q _ => ∃ i : Int, vs = [.int i] ∧ Q (.bl true) H
set_option maxHeartbeats 4000000 in
theorem ok_law_is_number (T : Top K mg) {f : Addr} {fd : FuncData} (D : Def K mg "_law_is_number" s_law_is_number ["told"] f fd) : FnOk P w K mg base CX0 1 f fd ["told"] (sp_law_is_number K) := by
  refine D.F.ok sc_law_is_number (fun vs H Q E h => ?_) (fun cdv A outer s H vs Q E hr h => ?_)
  · obtain ⟨i, rfl, _⟩ := h
    rfl
  · obtain ⟨i, rfl, q⟩ := h
    refine ⟨_, (pss_one (ps_ret (pe_and (pe_callB (r := rIsi K) call_isi (by rfl) T.b_isinstance (by decide +kernel) (pa_cons (pv 0) (pa_cons (pe_bltn (v := .ty "int") (by rfl) T.b_int (by decide +kernel) rfl) pa_nil))) (pe_one (pe_not (pe_callB (r := rIsi K) call_isi (by rfl) T.b_isinstance (by decide +kernel) (pa_cons (pv 0) (pa_cons (pe_bltn (v := .ty "bool") (by rfl) T.b_bool (by decide +kernel) rfl) pa_nil)))))))), ?_⟩
    walk_at "rx"
    exact q
set_option maxHeartbeats 4000000 in
theorem okQ_law_is_number (T : Top K mg) {f : Addr} {fd : FuncData} (D : Def K mg "_law_is_number" s_law_is_number ["told"] f fd) : FnQ P w K mg base 1 f fd ["told"] (sp_law_is_number K) := by
  refine fn_Q D.F sc_law_is_number (fun vs H Q E h => ?_) (fun cdv A outer s H vs Q E p hr h => ?_)
  · obtain ⟨i, rfl, _⟩ := h
    rfl
  · obtain ⟨i, rfl, q⟩ := h
    refine ⟨_, (pss_one (ps_ret (pe_and (pe_callB (r := rIsi K) call_isi (by rfl) T.b_isinstance (by decide +kernel) (pa_cons (pv 0) (pa_cons (pe_bltn (v := .ty "int") (by rfl) T.b_int (by decide +kernel) rfl) pa_nil))) (pe_one (pe_not (pe_callB (r := rIsi K) call_isi (by rfl) T.b_isinstance (by decide +kernel) (pa_cons (pv 0) (pa_cons (pe_bltn (v := .ty "bool") (by rfl) T.b_bool (by decide +kernel) rfl) pa_nil)))))))), ?_⟩
    walk_at "rx"
    exact q
def sp_law_is_numbers (_K : PySem.W.Frag) : Sp := fun vs H Q _ => ∃ (a b : Addr) (es : List Int), vs = [.ref a, .ref b] ∧ H a = some (.tup (es.map V.int)) ∧ H b = some (.lst (es.map V.int)) ∧ es.length ≤ 100 ∧ Q (.bl true) H
set_option maxHeartbeats 4000000 in
theorem ok_law_is_numbers (T : Top K mg) {f : Addr} {fd : FuncData} (D : Def K mg "_law_is_numbers" s_law_is_numbers ["told", "due"] f fd) : FnOk P w K mg base CX0 2 f fd ["told", "due"] (sp_law_is_numbers K) := by
  obtain ⟨f_law_is_number, fd_law_is_number, D_law_is_number⟩ := T.d__law_is_number
  have G_law_is_number : FnOk P w K mg base CX0 1 f_law_is_number fd_law_is_number ["told"] (sp_law_is_number K) := ok_law_is_number T D_law_is_number
  refine D.F.ok sc_law_is_numbers (fun vs H Q E h => ?_) (fun cdv A outer s H vs Q E hr h => ?_)
  · obtain ⟨a, b, es, rfl, _⟩ := h
    rfl
  · obtain ⟨a, b, es, rfl, ha, hb, l, q⟩ := h
    have hrr : -100000 ≤ (((es.map V.int).length : Nat) : Int) ∧ (((es.map V.int).length : Nat) : Int) ≤ 100000 := by rw [List.length_map]; omega
    refine ⟨_, (pss_cons (ps_if (PW.pt (pw_or (pt_not (pt_val (pe_callB (r := rIsi K) call_isi (by rfl) T.b_isinstance (by decide +kernel) (pa_cons (pv 0) (pa_cons (pe_bltn (v := .ty "tuple") (by rfl) T.b_tuple (by decide +kernel) rfl) pa_nil))))) (pw_or1 (pt_cmpR op_ne (pe_callB (r := rLenQ K) call_lenQ (by rfl) T.b_len PySem.boot_len (pa_cons (pv 0) pa_nil)) (pe_callB (r := rLenQ K) call_lenQ (by rfl) T.b_len PySem.boot_len (pa_cons (pv 1) pa_nil)) (nomark _))))) (pss_one (ps_ret pe_bl)) pss_nil)
    (pss_cons (ps_for PassesOwn.never rfl (pi_range1 (by rfl) T.b_range (pa_cons (pe_callB (r := rLenQ K) call_lenQ (by rfl) T.b_len PySem.boot_len (pa_cons (pv 1) pa_nil)) pa_nil)) (pg_name (i := 2) sc_law_is_numbers.nd rfl (.inl rfl)) (pss_one (ps_if (PW.pt (pw_or (pt_not (pt_val (pe_call G_law_is_number hr (by rfl) D_law_is_number.g D_law_is_number.F.kp D_law_is_number.b .nil pass0 (pa_cons (pe_ix (r := rIxT K) ix_tup (pv 0) (pv 2) (fun _ _ => rfl)) pa_nil)))) (pw_or1 (pt_cmpR op_ne (pe_ix (r := rIxT K) ix_tup (pv 0) (pv 2) (fun _ _ => rfl)) (pe_ix (r := rIxL K) ix_list (pv 1) (pv 2) (fun _ _ => rfl)) (nomark _))))) (pss_one (ps_ret pe_bl)) pss_nil)))
    (pss_one (ps_ret pe_bl)))), ?_⟩
    walk_at "rx"
    rw [decide_eq_true (show V.int ((es.map V.int).length : Nat) = V.int ((es.map V.int).length : Nat) from rfl)]
    walk_at "rx"
    refine fr_rng0 (fun i σ H' => ∃ (y2 : Option V), σ = [some (.ref a), some (.ref b), y2] ∧ H' = H) ⟨none, rfl, rfl⟩ ?_ ?_
    · rintro i σ Ha hi ⟨y2, rfl, rfl⟩
      have hi2 : i < es.length := by rw [List.length_map] at hi; omega
      have e : atI (es.map V.int) (i : Int) = some (.int (es.getD i 0)) := atI_ints (by omega) (by omega)
      walk_at "rx"
      refine ⟨_, rfl, ?_⟩
      walk_at "rx"
      rw [decide_eq_true (show V.int (es.getD i 0) = V.int (es.getD i 0) from rfl)]
      walk_at "rx"
      exact ⟨_, rfl, rfl⟩
    · rintro σ Ha ⟨y2, rfl, rfl⟩
      walk_at "rx"
      exact q
def spcheck_goal (K : PySem.W.Frag) : Sp := fun vs H Q E => ∃ (v : V), vs = [v] ∧
  ((∃ a ns, v = .ref a ∧ H a = some (.tup (ns.map V.int)) ∧ GOk ns ∧ ∀ H', Same H H' → Q .non H') ∨ (∃ M k, GoalBad M H v k ∧ ∀ H' d, Same H H' → H' d = some (.xd [("at", .int k)]) → E (.ref (atTop K "InvalidGoal")) (some d) H'))
set_option maxHeartbeats 4000000 in
theorem okcheck_goal (T : Top K mg) {f : Addr} {fd : FuncData} (D : Def K mg "check_goal" scheck_goal ["goal"] f fd) : FnOk P w K mg base (L2.CX P w) 3 f fd ["goal"] (spcheck_goal K) := by
  obtain ⟨fE_InvalidGoal, fdE_InvalidGoal, ET_InvalidGoal, FE_InvalidGoal, bE_InvalidGoal⟩ := T.e_InvalidGoal
  have GI_InvalidGoal := okInit_InvalidGoal (P := P) (w := w) (base := base) ET_InvalidGoal FE_InvalidGoal
  refine D.F.okX sccheck_goal (fun vs H Q E h => ?_) (fun cdv A outer s H vs Q E hr h => ?_)
  · obtain ⟨v, rfl, _⟩ := h
    rfl
  · obtain ⟨v, rfl, hc⟩ := h
    refine ⟨_, (pss_cons (ps_if (PW.pt (pw_or (pt_not (pt_val (pe_callB (r := rIsi K) call_isi (by rfl) T.b_isinstance (by decide +kernel) (pa_cons (pv 0) (pa_cons (pe_bltn (v := .ty "tuple") (by rfl) T.b_tuple (by decide +kernel) rfl) pa_nil))))) (pw_or1 (pt_not (pt_chain op_le op_le pe_int (pe_callB (r := rLenQ K) call_lenQ (by rfl) T.b_len PySem.boot_len (pa_cons (pv 0) pa_nil)) (Rv.pe_k (by rfl) T.k_MOST_BLOCKS_goals)))))) (pss_one (ps_raiseQ rfl (takes_of rfl rfl rfl rfl) (pmk_oex ET_InvalidGoal.ox ET_InvalidGoal.iC ET_InvalidGoal.tI GI_InvalidGoal (hr.mono (by decide)) bE_InvalidGoal .nil pass0 (by rfl) ET_InvalidGoal.gC (pa_cons (pe_un un_neg pe_int) pa_nil)))) pss_nil)
    (pss_one (ps_for (passes_of rfl) rfl (Rv.pi_enT (by rfl) T.b_enumerate (pa_cons (pv 0) pa_nil)) (pg_tup rfl (pgs_cons (pg_name (i := 1) sccheck_goal.nd rfl (.inl rfl)) (pgs_cons (pg_name (i := 2) sccheck_goal.nd rfl (.inl rfl)) pgs_nil))) (pss_one (ps_if (PW.pt (pw_or (pt_not (pt_val (pe_callB (r := rIsi K) call_isi (by rfl) T.b_isinstance (by decide +kernel) (pa_cons (pv 2) (pa_cons (pe_bltn (v := .ty "int") (by rfl) T.b_int (by decide +kernel) rfl) pa_nil))))) (pw_or1 (pt_not (pt_chain op_le op_lt pe_int (pv 2) (pe_callB (r := rLenQ K) call_lenQ (by rfl) T.b_len PySem.boot_len (pa_cons (pv 0) pa_nil))))))) (pss_one (ps_raiseQ rfl (takes_of rfl rfl rfl rfl) (pmk_oex ET_InvalidGoal.ox ET_InvalidGoal.iC ET_InvalidGoal.tI GI_InvalidGoal (hr.mono (by decide)) bE_InvalidGoal .nil pass0 (by rfl) ET_InvalidGoal.gC (pa_cons (pv 1) pa_nil)))) pss_nil))))), ?_⟩
    walk_at "rx"
    by_cases hv : ∃ p xs, v = .ref p ∧ H p = some (.tup xs) ∧ 1 ≤ xs.length ∧ xs.length ≤ 12
    · obtain ⟨p, xs, rfl, hp, x1, x12⟩ := hv
      obtain ⟨ev, hG, hX⟩ : (∀ x ∈ xs, OddV H x) ∧ ((∀ (i : Nat) x, xs[i]? = some x → NumOk xs.length x) → ∀ H', Same H H' → Q .non H') ∧
          (∀ (j : Nat) x, xs[j]? = some x → ¬ NumOk xs.length x → (∀ (i : Nat) y, i < j → xs[i]? = some y → NumOk xs.length y) → ∀ H' d, Same H H' → H' d = some (.xd [("at", .int (j : Int))]) → E (.ref (atTop K "InvalidGoal")) (some d) H') := by
        rcases hc with ⟨a, es, e1, e2, G, q⟩ | ⟨M, k, bad, q⟩
        · cases e1
          rw [hp] at e2
          cases e2
          have ok : ∀ (i : Nat) x, (es.map V.int)[i]? = some x → NumOk (es.map V.int).length x := fun i x e => by
            obtain ⟨e0, he0, rfl⟩ := List.mem_map.mp (List.mem_of_getElem? e)
            rw [List.length_map]
            exact ⟨e0, rfl, G.en e0 he0⟩
          exact ⟨fun x hx => by
            obtain ⟨e0, _, rfl⟩ := List.mem_map.mp hx
            exact .inl ⟨e0, rfl⟩, fun _ => q, fun j x e n _ => absurd (ok j x e) n⟩
        · rcases bad with ⟨_, e | ⟨i, e⟩ | ⟨z, e⟩ | ⟨p2, ys, e, _, h⟩ | ⟨p2, ys, e, h, l, _⟩⟩ | ⟨p2, ys, j, e, h, l1, l2, ev, ek, ⟨x, ex, nx⟩, ob⟩
          · cases e
          · cases e
          · cases e
          · cases e
            rw [hp] at h
            cases h
          · cases e
            rw [hp] at h
            cases h
            omega
          · cases e
            rw [hp] at h
            cases h
            refine ⟨ev, fun g => absurd (g j x ex) nx, fun j2 x2 ex2 nx2 ob2 => ?_⟩
            have : j2 = j := by
              rcases Nat.lt_trichotomy j2 j with z | z | z
              · exact absurd (ob j2 x2 z ex2) nx2
              · exact z
              · exact absurd (ob2 j x z ex) nx
            subst this
            rw [ek] at q
            exact q
      walk_at "rx"
      rw [decide_eq_true (show (1 : Int) ≤ ((xs.length : Nat) : Int) by omega)]
      walk_at "rx"
      rw [decide_eq_true (show ((xs.length : Nat) : Int) ≤ 12 by omega)]
      walk_at "rx"
      refine fr_it walk_jen (fun i σ H' => ∃ y1 y2, σ = [some (.ref p), y1, y2] ∧ Same H H' ∧ ∀ (j : Nat) x, j < i → xs[j]? = some x → NumOk xs.length x) ⟨none, none, rfl, Same.refl H, fun j x h => absurd h (Nat.not_lt_zero j)⟩ (fun i σ H' _ pp => ?_) ?_ ?_
      · obtain ⟨_, _, _, S, _⟩ := pp
        exact S _ _ hp
      · rintro i x σ H1 H2 hi ⟨y1, y2, rfl, S, ob⟩ ⟨t, u, w, rfl, nT, rfl, e1, e2⟩
        cases e1
        have e3 : xs[i]? = some w := e2
        have S3 := same_new (o := .tup [.int (i : Nat), w]) S nT
        have hp3 := S3 _ _ hp
        have nx : NumOk xs.length w → ∀ (j : Nat) y, j < i + 1 → xs[j]? = some y → NumOk xs.length y := fun o j y hj ey => by
          by_cases z : j = i
          · subst z
            rw [e3] at ey
            cases ey
            exact o
          · exact ob j y (by omega) ey
        rcases ev w (List.mem_of_getElem? e3) with ⟨e, rfl⟩ | ⟨z, rfl⟩ | rfl | ⟨p2, ys, rfl, h2⟩
        · walk_at "rx"
          by_cases z1 : 0 ≤ e
          · rw [decide_eq_true z1]
            walk_at "rx"
            by_cases z2 : e < (xs.length : Int)
            · rw [decide_eq_true z2]
              walk_at "rx"
              exact ⟨_, _, rfl, S3, nx ⟨e, rfl, z1, z2⟩⟩
            · rw [decide_eq_false z2]
              walk_at "rx"
              exact mkErr fun H8 d S8 hd => hX i _ e3 (fun ⟨e0, ee, b1, b2⟩ => by cases ee; exact z2 b2) ob H8 d (S3.trans S8) hd
          · rw [decide_eq_false z1]
            walk_at "rx"
            exact mkErr fun H8 d S8 hd => hX i _ e3 (fun ⟨e0, ee, b1, b2⟩ => by cases ee; exact z1 b1) ob H8 d (S3.trans S8) hd
        · walk_at "rx"
          refine rd_isiS kit_st ?_
          walk_at "rx"
          exact mkErr fun H8 d S8 hd => hX i _ e3 (fun ⟨e0, ee, b1, b2⟩ => by cases ee) ob H8 d (S3.trans S8) hd
        · walk_at "rx"
          exact mkErr fun H8 d S8 hd => hX i _ e3 (fun ⟨e0, ee, b1, b2⟩ => by cases ee) ob H8 d (S3.trans S8) hd
        · have h23 := S3 _ _ h2
          walk_at "rx"
          refine rd_isiT h23 kit_ti ?_
          walk_at "rx"
          exact mkErr fun H8 d S8 hd => hX i _ e3 (fun ⟨e0, ee, b1, b2⟩ => by cases ee) ob H8 d (S3.trans S8) hd
      · rintro σ H' ⟨y1, y2, rfl, S, ob⟩
        exact hG (fun i x e => ob i x (List.getElem?_eq_some_iff.mp e).1 e) _ S
    · rcases hc with ⟨a, es, e1, e2, G, q⟩ | ⟨M, k, bad, q⟩
      · exact absurd ⟨a, _, e1, e2, by rw [List.length_map]; exact G.l1, by rw [List.length_map]; exact G.l12⟩ hv
      · rcases bad with ⟨ek, rfl | ⟨i, rfl⟩ | ⟨z, rfl⟩ | ⟨p2, ys, rfl, _, h⟩ | ⟨p2, ys, rfl, h, l, l2⟩⟩ | ⟨p2, ys, j, e, h, l1, l2, _⟩
        · rw [ek] at q
          walk_at "rx"
          exact mkErr fun H8 d S8 hd => q H8 d S8 hd
        · rw [ek] at q
          walk_at "rx"
          exact mkErr fun H8 d S8 hd => q H8 d S8 hd
        · rw [ek] at q
          walk_at "rx"
          refine rd_isiS kit_st2 ?_
          walk_at "rx"
          exact mkErr fun H8 d S8 hd => q H8 d S8 hd
        · rw [ek] at q
          walk_at "rx"
          refine rd_isiL h kit_lt ?_
          walk_at "rx"
          exact mkErr fun H8 d S8 hd => q H8 d S8 hd
        · rw [ek] at q
          walk_at "rx"
          by_cases z1 : (1 : Int) ≤ ((ys.length : Nat) : Int)
          · rw [decide_eq_true z1]
            walk_at "rx"
            rw [decide_eq_false (show ¬ ((ys.length : Nat) : Int) ≤ 12 by omega)]
            walk_at "rx"
            exact mkErr fun H8 d S8 hd => q H8 d S8 hd
          · rw [decide_eq_false z1]
            walk_at "rx"
            exact mkErr fun H8 d S8 hd => q H8 d S8 hd
        · exact absurd ⟨p2, ys, e, h, l1, l2⟩ hv
def sphomeless (K : PySem.W.Frag) : Sp := fun vs H Q E => ∃ (v : V), vs = [v] ∧
  ((∃ a ns, v = .ref a ∧ H a = some (.tup (ns.map V.int)) ∧ GOk ns ∧ ∀ H' p, Same H H' → H' p = some (.tup ((homl ns ns.length).map V.int)) → Q (.ref p) H') ∨ (∃ M k, GoalBad M H v k ∧ ∀ H' d, Same H H' → H' d = some (.xd [("at", .int k)]) → E (.ref (atTop K "InvalidGoal")) (some d) H'))
set_option maxHeartbeats 4000000 in
theorem okhomeless (T : Top K mg) {f : Addr} {fd : FuncData} (D : Def K mg "homeless" shomeless ["goal"] f fd) : FnOk P w K mg base (L2.CX P w) 4 f fd ["goal"] (sphomeless K) := by
  obtain ⟨fcheck_goal, fdcheck_goal, Dcheck_goal⟩ := T.d_check_goal
  have Gcheck_goal : FnOk P w K mg base (L2.CX P w) 3 fcheck_goal fdcheck_goal ["goal"] (spcheck_goal K) := okcheck_goal T Dcheck_goal
  refine D.F.okX schomeless (fun vs H Q E h => ?_) (fun cdv A outer s H vs Q E hr h => ?_)
  · obtain ⟨v, rfl, _⟩ := h
    rfl
  · obtain ⟨v, rfl, hc⟩ := h
    refine ⟨_, (pss_cons (ps_expr (pe_callS Gcheck_goal hr (by rfl) Dcheck_goal.g Dcheck_goal.F.kp Dcheck_goal.b (fun σ => passAt (takes_of rfl rfl rfl rfl) σ) (pa_cons (pv 0) pa_nil)))
    (pss_one (ps_ret (pe_callTy (r := rTupQ K) call_tupQ (by rfl) T.b_tuple (by decide +kernel) (pa_cons (pe_callB (r := rSortedSet w) (cr_sortedSet rfl) (by rfl) T.b_sorted (by decide +kernel) (pa_cons (pe_si (w := w) (own := [("number", 1)]) (g := gName 1) (tt := _) rfl rfl schomeless.nd (pi_tup (pv 0))
      (blkOk_by (own := [("number", 1)]) (N := ["goal", "number"]) (sc := defScope shomeless) (by decide +kernel)) (fun _ _ _ _ _ => (pg_name (i := 1) schomeless.nd rfl (.inl rfl))) (fun _ _ _ _ _ => pts_one (pt_cmpR op_ne (pe_ix (r := rIxT K) ix_tup (pv 0) (pv 1) (fun _ _ => rfl)) (pv 1) (nomark _)))
      (fun _ _ _ _ _ => (pv 1))) pa_nil)) pa_nil))))), ?_⟩
    walk_at "rx"
    rcases hc with ⟨a, ns, rfl, ha, G, q⟩ | ⟨M, k, bad, q⟩
    · refine ⟨_, rfl, .inl ⟨a, ns, rfl, ha, G, fun H1 S1 => ?_⟩⟩
      have ha1 := S1 _ _ ha
      have l12 := G.l12
      walk_at "rx"
      refine rd_si ?_
      walk_at "rx"
      refine si_it (walk_tup (xs := ns.map V.int)) (fun i ks => ks = strays_ ns i) (by rfl) (fun i ks hi e => ?_) (fun H' S => SqT.of (S _ _ ha1)) ?_ ?_
      · rw [e]
        have := List.length_filter_le (fun x => !decide (ns.getD x.toNat 0 = x)) (ns.take i)
        rw [List.length_take] at this
        show ((ns.take i).filter _).length < _
        omega
      · rintro i x Ha Hb ks Qc R hi Sa e ⟨rfl, ex⟩ qc rc
        subst e
        have hi2 : i < ns.length := by rw [List.length_map] at hi; exact hi
        rw [List.getElem?_map, List.getElem?_eq_getElem hi2] at ex
        cases ex
        have tn := take_next hi2
        have en := G.en _ (List.getElem_mem hi2)
        generalize ns[i] = x at *
        have hah := Sa _ _ ha1
        have ae : atI (ns.map V.int) x = some (.int (ns.getD x.toNat 0)) := atI_ints (by omega) (by omega)
        walk_at "rx"
        refine ⟨rfl, ?_⟩
        walk_at "rx"
        by_cases z : ns.getD x.toNat 0 = x
        · rw [decide_eq_true (show V.int (ns.getD x.toNat 0) = V.int x from by rw [z])]
          walk_at "rx"
          refine rc _ (Same.refl _) ?_
          unfold strays_
          rw [tn, List.filter_append, List.filter_cons_of_neg (by rw [decide_eq_true z]; decide), List.filter_nil, List.append_nil]
        · rw [decide_eq_false (show ¬ V.int (ns.getD x.toNat 0) = V.int x from fun w => z (V.int.inj w))]
          walk_at "rx"
          refine qc _ _ (Same.refl _) ?_
          unfold strays_
          rw [tn, List.filter_append, List.filter_cons_of_pos (by rw [decide_eq_false z]; rfl), List.filter_nil]
      · intro H2 st ks c S2 nst hc hst e
        rw [List.length_map, show strays_ ns ns.length = strays ns from by unfold strays_ strays; rw [List.take_length]] at e
        subst e
        have ll : (strays ns).length ≤ ns.length := List.length_filter_le _ _
        walk_at "rx"
        refine rd_sortedI hst (by omega) fun H3 so os S3 nso hso asc lc => ?_
        rw [asc.uniq (strays_asc G.en)] at hso
        walk_at "rx"
        refine rd_newL fun H4 D S4 nD hD => ?_
        exact q H4 D (((S1.trans S2).trans S3).trans S4) hD
    · exact ⟨v, rfl, .inr ⟨M, k, bad, q⟩⟩
def sp_law_homeless (_K : PySem.W.Frag) : Sp := fun vs H Q _ => ∃ (a : Addr) (ns : List Int), vs = [.ref a] ∧ H a = some (.tup (ns.map V.int)) ∧ ns.length ≤ 12 ∧ ∀ H' l, Same H H' → H l = none → H' l = some (.lst ((homl ns ns.length).map V.int)) → Q (.ref l) H'
set_option maxHeartbeats 4000000 in
theorem ok_law_homeless (T : Top K mg) {f : Addr} {fd : FuncData} (D : Def K mg "_law_homeless" s_law_homeless ["goal"] f fd) : FnOk P w K mg base CX0 1 f fd ["goal"] (sp_law_homeless K) := by
  refine D.F.ok sc_law_homeless (fun vs H Q E h => ?_) (fun cdv A outer s H vs Q E hr h => ?_)
  · obtain ⟨a, ns, rfl, _⟩ := h
    rfl
  · obtain ⟨a, ns, rfl, ha, l12, q⟩ := h
    have hrr : -100000 ≤ (((ns.map V.int).length : Nat) : Int) ∧ (((ns.map V.int).length : Nat) : Int) ≤ 100000 := by rw [List.length_map]; omega
    refine ⟨_, (pss_cons (ps_set (i := 1) sc_law_homeless.nd rfl (.inl rfl) (pe_lst pa_nil))
    (pss_cons (ps_for PassesOwn.never rfl (pi_range1 (by rfl) T.b_range (pa_cons (pe_callB (r := rLenQ K) call_lenQ (by rfl) T.b_len PySem.boot_len (pa_cons (pv 0) pa_nil)) pa_nil)) (pg_name (i := 2) sc_law_homeless.nd rfl (.inl rfl)) (pss_one (ps_if (PW.pt (pw_and (pt_cmpR (r := rIn K false) op_in_seq (pv 2) (pv 0) (by rfl)) (pw_and1 (pt_cmpR op_ne (pe_ix (r := rIxT K) ix_tup (pv 0) (pv 2) (fun _ _ => rfl)) (pv 2) (nomark _))))) (pss_one (ps_expr (pe_bm PySem.F.plainAttrs_list PySem.F.slot_list_append PySem.F.type_list_append mt_append (pv 1) (pa_cons (pv 2) pa_nil)))) pss_nil)))
    (pss_one (ps_ret (pv 1))))), ?_⟩
    walk_at "rx"
    refine rd_newQ (by simp) fun H1 L S1 nL hL => ?_
    have ha1 := S1 _ _ ha
    walk_at "rx"
    refine fr_rng0 (fun i σ H' => ∃ (y2 : Option V), σ = [some (.ref a), some (.ref L), y2] ∧ Same H H' ∧ H' L = some (.lst ((homl ns i).map V.int)) ∧ H' a = some (.tup (ns.map V.int))) ⟨none, rfl, S1, hL, ha1⟩ ?_ ?_
    · rintro i σ H2 hi ⟨y2, rfl, S2, h2, ha2⟩
      have hi2 : i < ns.length := by rw [List.length_map] at hi; omega
      have lh := homl_len (gs := ns) (k := i)
      have ae : atI (ns.map V.int) (i : Int) = some (.int (ns.getD i 0)) := atI_ints (by omega) (by omega)
      have l0 : ((homl ns i).map V.int).length < 1000 := by rw [List.length_map]; omega
      have nLa : L ≠ a := fun e => by rw [e, ha] at nL; cases nL
      walk_at "rx"
      refine rd_inT ha2 rfl (flat_ints _) ?_
      rw [inV_ints]
      refine ⟨_, rfl, ?_⟩
      by_cases z : (i : Int) ∈ ns
      · rw [decide_eq_true z]
        show if true = true then _ else _
        walk_at "rx"
        by_cases y : ns.getD i 0 = (i : Int)
        · rw [decide_eq_true (show V.int (ns.getD i 0) = V.int (i : Int) by rw [y])]
          show if false = true then _ else _
          refine rd_next ?_
          refine ⟨_, rfl, S2, ?_, ha2⟩
          show H2 L = some (.lst ((homl ns i ++ _).map V.int))
          rw [if_neg (fun w => w.2 y), List.append_nil]
          exact h2
        · rw [decide_eq_false (show ¬ V.int (ns.getD i 0) = V.int (i : Int) from fun w => y (V.int.inj w))]
          show if true = true then _ else _
          walk_at "rx"
          refine ⟨_, rfl, same_mut S2 nL, ?_, by rw [upd_ne nLa.symm]; exact ha2⟩
          rw [upd_same]
          show _ = some (HO.lst ((homl ns i ++ _).map V.int))
          rw [if_pos ⟨z, y⟩, List.map_append]
          rfl
      · rw [decide_eq_false z]
        show if false = true then _ else _
        walk_at "rx"
        refine ⟨_, rfl, S2, ?_, ha2⟩
        show H2 L = some (.lst ((homl ns i ++ _).map V.int))
        rw [if_neg (fun w => z w.1), List.append_nil]
        exact h2
    · rintro σ H2 ⟨y2, rfl, S2, h2, ha2⟩
      walk_at "rx"
      rw [show (((ns.map V.int).length : Nat) : Int).toNat = ns.length by rw [List.length_map]; omega] at h2
      exact q H2 L S2 nL h2
def sp_law_small_right (_K : PySem.W.Frag) : Sp := fun vs H Q _ => ∃ b : Nat, vs = [.int (b : Int)] ∧ 1 ≤ b ∧ b ≤ 4 ∧ ∀ H', Q (.bl true) H'
set_option maxHeartbeats 4000000 in
theorem ok_law_small_right (T : Top K mg) {f : Addr} {fd : FuncData} (D : Def K mg "_law_small_right" s_law_small_right ["blocks"] f fd) : FnOk P w K mg base CX0 5 f fd ["blocks"] (sp_law_small_right K) := by
  obtain ⟨f_law_every, fd_law_every, D_law_every⟩ := T.d__law_every
  have G_law_every : FnOk P w K mg base CX0 1 f_law_every fd_law_every ["blocks"] (sp_law_every K) := ok_law_every T D_law_every
  obtain ⟨fcount_safe_goals, fdcount_safe_goals, Dcount_safe_goals⟩ := T.d_count_safe_goals
  have Gcount_safe_goals : FnOk P w K mg base CX0 1 fcount_safe_goals fdcount_safe_goals ["blocks"] (spcount_safe_goals K) := okcount_safe_goals T Dcount_safe_goals
  obtain ⟨f_law_is_number, fd_law_is_number, D_law_is_number⟩ := T.d__law_is_number
  have G_law_is_number : FnOk P w K mg base CX0 1 f_law_is_number fd_law_is_number ["told"] (sp_law_is_number K) := ok_law_is_number T D_law_is_number
  obtain ⟨f_law_is_numbers, fd_law_is_numbers, D_law_is_numbers⟩ := T.d__law_is_numbers
  have G_law_is_numbers : FnOk P w K mg base CX0 2 f_law_is_numbers fd_law_is_numbers ["told", "due"] (sp_law_is_numbers K) := ok_law_is_numbers T D_law_is_numbers
  obtain ⟨fhomeless, fdhomeless, Dhomeless⟩ := T.d_homeless
  have Ghomeless : FnOk P w K mg base (L2.CX P w) 4 fhomeless fdhomeless ["goal"] (sphomeless K) := okhomeless T Dhomeless
  obtain ⟨f_law_homeless, fd_law_homeless, D_law_homeless⟩ := T.d__law_homeless
  have G_law_homeless : FnOk P w K mg base CX0 1 f_law_homeless fd_law_homeless ["goal"] (sp_law_homeless K) := ok_law_homeless T D_law_homeless
  refine D.F.ok sc_law_small_right (fun vs H Q E h => ?_) (fun cdv A outer s H vs Q E hr h => ?_)
  · obtain ⟨b, rfl, _⟩ := h
    rfl
  · obtain ⟨b, rfl, b1, b4, q⟩ := h
    refine ⟨_, (pss_cons (ps_set (i := 1) sc_law_small_right.nd rfl (.inl rfl) pe_int)
    (pss_cons (ps_for PassesOwn.never rfl (pi_list (pe_call G_law_every (hr.mono (by decide)) (by rfl) D_law_every.g D_law_every.F.kp D_law_every.b .nil pass0 (pa_cons (pv 0) pa_nil))) (pg_name (i := 2) sc_law_small_right.nd rfl (.inr rfl)) (pss_cons (ps_if (pt_not (pt_val (pe_call G_law_is_numbers (hr.mono (by decide)) (by rfl) D_law_is_numbers.g D_law_is_numbers.F.kp D_law_is_numbers.b .nil pass0 (pa_cons (pe_call Ghomeless hr (by rfl) Dhomeless.g Dhomeless.F.kp Dhomeless.b .nil passL (pa_cons (pv 2) pa_nil)) (pa_cons (pe_call G_law_homeless (hr.mono (by decide)) (by rfl) D_law_homeless.g D_law_homeless.F.kp D_law_homeless.b .nil pass0 (pa_cons (pv 2) pa_nil)) pa_nil))))) (pss_one (ps_ret pe_bl)) pss_nil)
    (pss_one (ps_if (pt_not (pt_truQ (pe_lc (own := [("number", 4)]) (g := gName 4) (tt := _) rfl sc_law_small_right.nd (pi_tup (pv 2))
      (blkOk_by (own := [("number", 4)]) (N := ["blocks", "many", "goal", "told", "number"]) (sc := defScope s_law_small_right) (by decide +kernel)) (fun _ _ _ _ _ => (pg_name (i := 4) sc_law_small_right.nd rfl (.inl rfl))) (fun _ _ _ _ _ => pts_one (pt_cmpR op_ne (pe_ix (r := rIxT K) ix_tup (pv 2) (pv 4) (fun _ _ => rfl)) (pv 4) (nomark _)))
      (fun _ _ _ _ _ => (pv 4))) (by intro _; rfl))) (pss_one (ps_set (i := 1) sc_law_small_right.nd rfl (.inl rfl) (pe_op op_add (pv 1) pe_int))) pss_nil))))
    (pss_cons (ps_set (i := 3) sc_law_small_right.nd rfl (.inl rfl) (pe_call Gcount_safe_goals (hr.mono (by decide)) (by rfl) Dcount_safe_goals.g Dcount_safe_goals.F.kp Dcount_safe_goals.b .nil pass0 (pa_cons (pv 0) pa_nil)))
    (pss_one (ps_ret (pe_and (pe_call G_law_is_number (hr.mono (by decide)) (by rfl) D_law_is_number.g D_law_is_number.F.kp D_law_is_number.b .nil pass0 (pa_cons (pv 3) pa_nil)) (pe_one (pe_cmpR op_eq (pv 3) (pv 1) (nomark _))))))))), ?_⟩
    walk_at "rx"
    refine ⟨b, rfl, b1, b4, fun H1 l bs S1 nl hl tb => ?_⟩
    have lb := tb.len
    have le := ev_le (k := b) b4 b4
    walk_at "rx"
    refine fr_it (walk_list (xs := bs.map V.ref)) (fun i σ H' => ∃ (y2 y3 y4 : Option V), σ = [some (.int (b : Int)), some (.int ((((ev b b).take i).filter sf).length : Nat)), y2, y3, y4] ∧ Same H1 H') ⟨none, none, none, rfl, Same.refl _⟩ (fun i σ H' _ pp => ?_) ?_ ?_
    · obtain ⟨_, _, _, _, S⟩ := pp
      exact SqL.of (S _ _ hl)
    · rintro i x σ H2 H3 hi ⟨y2, y3, y4, rfl, S2⟩ ⟨rfl, ex⟩
      rw [List.length_map] at hi
      have hi2 : i < (ev b b).length := by omega
      have er : (ev b b)[i]? = some (ev b b)[i] := List.getElem?_eq_getElem hi2
      obtain ⟨p, e1, e2⟩ := NRows.at (tb.same S2) er
      rw [List.getElem?_map, e1] at ex
      cases ex
      have mr := mem_ev.mp (List.getElem_mem hi2)
      have tk : (ev b b).take (i + 1) = (ev b b).take i ++ [(ev b b)[i]] := by rw [List.take_succ, er]; rfl
      generalize (ev b b)[i] = r at *
      have G : GOk (niz r) := ⟨by rw [niz_len]; omega, by rw [niz_len]; omega, fun e he => by
        obtain ⟨c, rfl, hc⟩ := niz_of he
        have := mr.2 c hc
        rw [niz_len]
        omega⟩
      have e3 : H3 p = some (.tup ((niz r).map V.int)) := e2
      have l12 := G.l12
      walk_at "rx"
      refine ⟨_, rfl, .inl ⟨p, niz r, rfl, e3, G, fun H4 T S4 hT => ?_⟩⟩
      have e4 := S4 _ _ e3
      walk_at "rx"
      refine ⟨p, niz r, rfl, e4, l12, fun H5 L S5 nL hL => ?_⟩
      have e5 := S5 _ _ e4
      have hT5 := S5 _ _ hT
      have lh := homl_len (gs := niz r) (k := (niz r).length)
      walk_at "rx"
      refine ⟨T, L, _, rfl, hT5, hL, by omega, ?_⟩
      refine ⟨true, rfl, ?_⟩
      show if false = true then _ else _
      walk_at "rx"
      unfold tTruQ
      walk_at "rx"
      refine lc_acc (walk_tup (xs := (niz r).map V.int)) (fun i acc => acc = (strays_ (niz r) i).map V.int) rfl (fun i acc hi e => ?_) (fun H' S => SqT.of (S _ _ e5)) ?_ ?_
      · rw [e, List.length_map]
        have := List.length_filter_le (fun x => !decide ((niz r).getD x.toNat 0 = x)) ((niz r).take i)
        rw [List.length_take] at this
        show (((niz r).take i).filter _).length < _
        omega
      · rintro i x Ha Hb acc Qc R hi Sa e ⟨rfl, ex⟩ qc rc
        subst e
        have hi2 : i < (niz r).length := by rw [List.length_map] at hi; exact hi
        rw [List.getElem?_map, List.getElem?_eq_getElem hi2] at ex
        cases ex
        have tn := take_next hi2
        have en := G.en _ (List.getElem_mem hi2)
        generalize (niz r)[i] = x at *
        have hah := Sa _ _ e5
        have ae : atI ((niz r).map V.int) x = some (.int ((niz r).getD x.toNat 0)) := atI_ints (by omega) (by omega)
        walk_at "rx"
        refine ⟨rfl, ?_⟩
        walk_at "rx"
        by_cases z : (niz r).getD x.toNat 0 = x
        · rw [decide_eq_true (show V.int ((niz r).getD x.toNat 0) = V.int x from by rw [z])]
          walk_at "rx"
          refine rc _ (Same.refl _) ?_
          unfold strays_
          rw [tn, List.filter_append, List.filter_cons_of_neg (by rw [decide_eq_true z]; decide), List.filter_nil, List.append_nil]
        · rw [decide_eq_false (show ¬ V.int ((niz r).getD x.toNat 0) = V.int x from fun w => z (V.int.inj w))]
          walk_at "rx"
          refine qc _ _ (Same.refl _) ?_
          unfold strays_
          rw [tn, List.filter_append, List.filter_cons_of_pos (by rw [decide_eq_false z]; rfl), List.filter_nil, List.map_append]
          rfl
      · intro H6 D acc S6 nD hD e
        rw [List.length_map, show strays_ (niz r) (niz r).length = strays (niz r) from by unfold strays_ strays; rw [List.take_length]] at e
        subst e
        refine ⟨_, .inl ⟨_, SqL.of hD, rfl⟩, ?_⟩
        have S06 := ((S2.trans S4).trans S5).trans S6
        rw [tk, List.filter_append]
        cases z : strays (niz r) with
        | nil =>
          show if true = true then _ else _
          walk_at "rx"
          rw [List.filter_cons_of_pos (show sf r = true by unfold sf; rw [z]; rfl), List.filter_nil, List.length_append]
          exact ⟨_, _, _, rfl, S06⟩
        | cons x0 xr =>
          show if false = true then _ else _
          walk_at "rx"
          rw [List.filter_cons_of_neg (show ¬ sf r = true by unfold sf; rw [z]; exact Bool.false_ne_true), List.filter_nil, List.append_nil]
          exact ⟨_, _, _, rfl, S06⟩
    · rintro σ H2 ⟨y2, y3, y4, rfl, S2⟩
      rw [List.length_map, lb, List.take_length]
      walk_at "rx"
      refine ⟨b, rfl, by omega, ?_⟩
      walk_at "rx"
      refine ⟨_, rfl, ?_⟩
      walk_at "rx"
      rw [decide_eq_true (show V.int (csg b b) = V.int ((((ev b b).filter sf).length : Nat) : Int) by rw [csg_small b b1 b4])]
      exact q H2
def spleast_logs (K : PySem.W.Frag) : SpR := fun vs H E => ∃ (v : V) (M : List Addr) (k : Int), vs = [v] ∧ GoalBad M H v k ∧ ∀ H' d, Same H H' → H' d = some (.xd [("at", .int k)]) → E (.ref (atTop K "InvalidGoal")) (some d) H'
set_option maxHeartbeats 4000000 in
theorem okleast_logs (T : Top K mg) {f : Addr} {fd : FuncData} (D : Def K mg "least_logs" sleast_logs ["goal"] f fd) : GFnR P w K mg base 5 f fd ["goal"] (spleast_logs K) := by
  obtain ⟨fhomeless, fdhomeless, Dhomeless⟩ := T.d_homeless
  have Ghomeless : FnOk P w K mg base (L2.CX P w) 4 fhomeless fdhomeless ["goal"] (sphomeless K) := okhomeless T Dhomeless
  obtain ⟨oc, od, kV, doc, pm, an, cdv, ct, osl, rfl, lk, hcd⟩ := D.F.ex
  refine gfnR_of lk hcd scleast_logs (fun vs H E h => ?_) (fun A outer s H vs E pn hr h => ?_)
  · obtain ⟨v, M, k, rfl, _⟩ := h
    rfl
  · obtain ⟨v, M, k, rfl, bad, q⟩ := h
    refine ⟨_, (pss_cons (ps_set (i := 1) scleast_logs.nd rfl (.inl rfl) (pe_ifExp (pt_truQ (pe_callS Ghomeless hr (by rfl) Dhomeless.g Dhomeless.F.kp Dhomeless.b (fun σ => passAt takes_gcx σ) (pa_cons (pv 0) pa_nil)) (by intro _; rfl)) (pe_lst pa_nil) (pe_lst (pa_cons (pe_tup pa_nil) pa_nil))))
    pss_nv), ?_⟩
    walk_at "rx"
    unfold tTruQ
    walk_at "rx"
    exact ⟨v, rfl, .inr ⟨M, k, bad, q⟩⟩
def spsafe_log (K : PySem.W.Frag) : Sp := fun vs H Q E => ∃ (v : V) (M : List Addr) (k : Int), vs = [v] ∧ GoalBad M H v k ∧ ∀ H' d, Same H H' → H' d = some (.xd [("at", .int k)]) → E (.ref (atTop K "InvalidGoal")) (some d) H'
set_option maxHeartbeats 4000000 in
theorem oksafe_log (T : Top K mg) {f : Addr} {fd : FuncData} (D : Def K mg "safe_log" ssafe_log ["goal"] f fd) : FnOk P w K mg base (L2.CX P w) 5 f fd ["goal"] (spsafe_log K) := by
  obtain ⟨fhomeless, fdhomeless, Dhomeless⟩ := T.d_homeless
  have Ghomeless : FnOk P w K mg base (L2.CX P w) 4 fhomeless fdhomeless ["goal"] (sphomeless K) := okhomeless T Dhomeless
  refine D.F.okX scsafe_log (fun vs H Q E h => ?_) (fun cdv A outer s H vs Q E hr h => ?_)
  · obtain ⟨v, M, k, rfl, _⟩ := h
    rfl
  · obtain ⟨v, M, k, rfl, bad, q⟩ := h
    refine ⟨_, (pss_cons (ps_set (i := 1) scsafe_log.nd rfl (.inl rfl) (pe_callS Ghomeless hr (by rfl) Dhomeless.g Dhomeless.F.kp Dhomeless.b (fun σ => passAt (takes_of rfl rfl rfl rfl) σ) (pa_cons (pv 0) pa_nil)))
    pss_nv), ?_⟩
    walk_at "rx"
    exact ⟨v, rfl, .inr ⟨M, k, bad, q⟩⟩
def spcount_least_logs (K : PySem.W.Frag) : Sp := fun vs H Q E => ∃ (v : V) (M : List Addr) (k : Int), vs = [v] ∧ GoalBad M H v k ∧ ∀ H' d, Same H H' → H' d = some (.xd [("at", .int k)]) → E (.ref (atTop K "InvalidGoal")) (some d) H'
set_option maxHeartbeats 4000000 in
theorem okcount_least_logs (T : Top K mg) {f : Addr} {fd : FuncData} (D : Def K mg "count_least_logs" scount_least_logs ["goal"] f fd) : FnOk P w K mg base (L2.CX P w) 5 f fd ["goal"] (spcount_least_logs K) := by
  obtain ⟨fhomeless, fdhomeless, Dhomeless⟩ := T.d_homeless
  have Ghomeless : FnOk P w K mg base (L2.CX P w) 4 fhomeless fdhomeless ["goal"] (sphomeless K) := okhomeless T Dhomeless
  refine D.F.okX sccount_least_logs (fun vs H Q E h => ?_) (fun cdv A outer s H vs Q E hr h => ?_)
  · obtain ⟨v, M, k, rfl, _⟩ := h
    rfl
  · obtain ⟨v, M, k, rfl, bad, q⟩ := h
    refine ⟨_, (pss_cons (ps_if (pt_truQ (pe_callS Ghomeless hr (by rfl) Dhomeless.g Dhomeless.F.kp Dhomeless.b (fun σ => passAt (takes_of rfl rfl rfl rfl) σ) (pa_cons (pv 0) pa_nil)) (by intro _; rfl)) (pss_one (ps_ret pe_int)) pss_nil)
    pss_nv), ?_⟩
    walk_at "rx"
    unfold tTruQ
    walk_at "rx"
    exact ⟨v, rfl, .inr ⟨M, k, bad, q⟩⟩
def spclosed_rings (K : PySem.W.Frag) : Sp := fun vs H Q E => ∃ (v : V) (M : List Addr) (k : Int), vs = [v] ∧ GoalBad M H v k ∧ ∀ H' d, Same H H' → H' d = some (.xd [("at", .int k)]) → E (.ref (atTop K "InvalidGoal")) (some d) H'
set_option maxHeartbeats 4000000 in
theorem okclosed_rings (T : Top K mg) {f : Addr} {fd : FuncData} (D : Def K mg "closed_rings" sclosed_rings ["goal"] f fd) : FnOk P w K mg base (L2.CX P w) 4 f fd ["goal"] (spclosed_rings K) := by
  obtain ⟨fcheck_goal, fdcheck_goal, Dcheck_goal⟩ := T.d_check_goal
  have Gcheck_goal : FnOk P w K mg base (L2.CX P w) 3 fcheck_goal fdcheck_goal ["goal"] (spcheck_goal K) := okcheck_goal T Dcheck_goal
  refine D.F.okX scclosed_rings (fun vs H Q E h => ?_) (fun cdv A outer s H vs Q E hr h => ?_)
  · obtain ⟨v, M, k, rfl, _⟩ := h
    rfl
  · obtain ⟨v, M, k, rfl, bad, q⟩ := h
    refine ⟨_, (pss_cons (ps_expr (pe_callS Gcheck_goal hr (by rfl) Dcheck_goal.g Dcheck_goal.F.kp Dcheck_goal.b (fun σ => passAt (takes_of rfl rfl rfl rfl) σ) (pa_cons (pv 0) pa_nil)))
    pss_nv), ?_⟩
    walk_at "rx"
    exact ⟨v, rfl, .inr ⟨M, k, bad, q⟩⟩
def spcheck_has_log (K : PySem.W.Frag) : Sp := fun vs H Q E => ∃ (v : V) (M : List Addr) (k : Int), vs = [v] ∧ GoalBad M H v k ∧ ∀ H' d, Same H H' → H' d = some (.xd [("at", .int k)]) → E (.ref (atTop K "InvalidGoal")) (some d) H'
set_option maxHeartbeats 4000000 in
theorem okcheck_has_log (T : Top K mg) {f : Addr} {fd : FuncData} (D : Def K mg "check_has_log" scheck_has_log ["goal"] f fd) : FnOk P w K mg base (L2.CX P w) 4 f fd ["goal"] (spcheck_has_log K) := by
  obtain ⟨fcheck_goal, fdcheck_goal, Dcheck_goal⟩ := T.d_check_goal
  have Gcheck_goal : FnOk P w K mg base (L2.CX P w) 3 fcheck_goal fdcheck_goal ["goal"] (spcheck_goal K) := okcheck_goal T Dcheck_goal
  refine D.F.okX sccheck_has_log (fun vs H Q E h => ?_) (fun cdv A outer s H vs Q E hr h => ?_)
  · obtain ⟨v, M, k, rfl, _⟩ := h
    rfl
  · obtain ⟨v, M, k, rfl, bad, q⟩ := h
    refine ⟨_, (pss_cons (ps_expr (pe_callS Gcheck_goal hr (by rfl) Dcheck_goal.g Dcheck_goal.F.kp Dcheck_goal.b (fun σ => passAt (takes_of rfl rfl rfl rfl) σ) (pa_cons (pv 0) pa_nil)))
    pss_nv), ?_⟩
    walk_at "rx"
    exact ⟨v, rfl, .inr ⟨M, k, bad, q⟩⟩
def spfewest_copies (K : PySem.W.Frag) : Sp := fun vs H Q E => ∃ (v : V) (M : List Addr) (k : Int), vs = [v] ∧ GoalBad M H v k ∧ ∀ H' d, Same H H' → H' d = some (.xd [("at", .int k)]) → E (.ref (atTop K "InvalidGoal")) (some d) H'
set_option maxHeartbeats 4000000 in
theorem okfewest_copies (T : Top K mg) {f : Addr} {fd : FuncData} (D : Def K mg "fewest_copies" sfewest_copies ["goal"] f fd) : FnOk P w K mg base (L2.CX P w) 5 f fd ["goal"] (spfewest_copies K) := by
  obtain ⟨fcheck_has_log, fdcheck_has_log, Dcheck_has_log⟩ := T.d_check_has_log
  have Gcheck_has_log : FnOk P w K mg base (L2.CX P w) 4 fcheck_has_log fdcheck_has_log ["goal"] (spcheck_has_log K) := okcheck_has_log T Dcheck_has_log
  refine D.F.okX scfewest_copies (fun vs H Q E h => ?_) (fun cdv A outer s H vs Q E hr h => ?_)
  · obtain ⟨v, M, k, rfl, _⟩ := h
    rfl
  · obtain ⟨v, M, k, rfl, bad, q⟩ := h
    refine ⟨_, (pss_cons (ps_expr (pe_callS Gcheck_has_log hr (by rfl) Dcheck_has_log.g Dcheck_has_log.F.kp Dcheck_has_log.b (fun σ => passAt (takes_of rfl rfl rfl rfl) σ) (pa_cons (pv 0) pa_nil)))
    pss_nv), ?_⟩
    walk_at "rx"
    exact ⟨v, M, k, rfl, bad, q⟩
def spleast_log (K : PySem.W.Frag) : Sp := fun vs H Q E => ∃ (v : V) (M : List Addr) (k : Int), vs = [v] ∧ GoalBad M H v k ∧ ∀ H' d, Same H H' → H' d = some (.xd [("at", .int k)]) → E (.ref (atTop K "InvalidGoal")) (some d) H'
set_option maxHeartbeats 4000000 in
theorem okleast_log (T : Top K mg) {f : Addr} {fd : FuncData} (D : Def K mg "least_log" sleast_log ["goal"] f fd) : FnOk P w K mg base (L2.CX P w) 5 f fd ["goal"] (spleast_log K) := by
  obtain ⟨fcheck_has_log, fdcheck_has_log, Dcheck_has_log⟩ := T.d_check_has_log
  have Gcheck_has_log : FnOk P w K mg base (L2.CX P w) 4 fcheck_has_log fdcheck_has_log ["goal"] (spcheck_has_log K) := okcheck_has_log T Dcheck_has_log
  refine D.F.okX scleast_log (fun vs H Q E h => ?_) (fun cdv A outer s H vs Q E hr h => ?_)
  · obtain ⟨v, M, k, rfl, _⟩ := h
    rfl
  · obtain ⟨v, M, k, rfl, bad, q⟩ := h
    refine ⟨_, (pss_cons (ps_expr (pe_callS Gcheck_has_log hr (by rfl) Dcheck_has_log.g Dcheck_has_log.F.kp Dcheck_has_log.b (fun σ => passAt (takes_of rfl rfl rfl rfl) σ) (pa_cons (pv 0) pa_nil)))
    pss_nv), ?_⟩
    walk_at "rx"
    exact ⟨v, M, k, rfl, bad, q⟩
def spfewest_stages (K : PySem.W.Frag) : Sp := fun vs H Q E => ∃ (v : V) (M : List Addr) (k : Int), vs = [v] ∧ GoalBad M H v k ∧ ∀ H' d, Same H H' → H' d = some (.xd [("at", .int k)]) → E (.ref (atTop K "InvalidGoal")) (some d) H'
set_option maxHeartbeats 4000000 in
theorem okfewest_stages (T : Top K mg) {f : Addr} {fd : FuncData} (D : Def K mg "fewest_stages" sfewest_stages ["goal"] f fd) : FnOk P w K mg base (L2.CX P w) 4 f fd ["goal"] (spfewest_stages K) := by
  obtain ⟨fcheck_goal, fdcheck_goal, Dcheck_goal⟩ := T.d_check_goal
  have Gcheck_goal : FnOk P w K mg base (L2.CX P w) 3 fcheck_goal fdcheck_goal ["goal"] (spcheck_goal K) := okcheck_goal T Dcheck_goal
  refine D.F.okX scfewest_stages (fun vs H Q E h => ?_) (fun cdv A outer s H vs Q E hr h => ?_)
  · obtain ⟨v, M, k, rfl, _⟩ := h
    rfl
  · obtain ⟨v, M, k, rfl, bad, q⟩ := h
    refine ⟨_, (pss_cons (ps_expr (pe_callS Gcheck_goal hr (by rfl) Dcheck_goal.g Dcheck_goal.F.kp Dcheck_goal.b (fun σ => passAt (takes_of rfl rfl rfl rfl) σ) (pa_cons (pv 0) pa_nil)))
    pss_nv), ?_⟩
    walk_at "rx"
    exact ⟨v, rfl, .inr ⟨M, k, bad, q⟩⟩
def sp_law_call (K : PySem.W.Frag) : Sp := fun vs H Q E => ∃ (d : Int) (v : V) (M : List Addr) (k : Int), vs = [.int d, v] ∧ GoalBad M H v k ∧ ∀ H' d, Same H H' → H' d = some (.xd [("at", .int k)]) → E (.ref (atTop K "InvalidGoal")) (some d) H'
set_option maxHeartbeats 4000000 in
theorem ok_law_call (T : Top K mg) {f : Addr} {fd : FuncData} (D : Def K mg "_law_call" s_law_call ["door", "goal"] f fd) : FnOk P w K mg base (L2.CX P w) 7 f fd ["door", "goal"] (sp_law_call K) := by
  obtain ⟨fleast_logs, fdleast_logs, Dleast_logs⟩ := T.d_least_logs
  have Gleast_logs : GFnR P w K mg base 5 fleast_logs fdleast_logs ["goal"] (spleast_logs K) := okleast_logs T Dleast_logs
  obtain ⟨fcheck_goal, fdcheck_goal, Dcheck_goal⟩ := T.d_check_goal
  have Gcheck_goal : FnOk P w K mg base (L2.CX P w) 3 fcheck_goal fdcheck_goal ["goal"] (spcheck_goal K) := okcheck_goal T Dcheck_goal
  obtain ⟨fhomeless, fdhomeless, Dhomeless⟩ := T.d_homeless
  have Ghomeless : FnOk P w K mg base (L2.CX P w) 4 fhomeless fdhomeless ["goal"] (sphomeless K) := okhomeless T Dhomeless
  obtain ⟨fsafe_log, fdsafe_log, Dsafe_log⟩ := T.d_safe_log
  have Gsafe_log : FnOk P w K mg base (L2.CX P w) 5 fsafe_log fdsafe_log ["goal"] (spsafe_log K) := oksafe_log T Dsafe_log
  obtain ⟨fcount_least_logs, fdcount_least_logs, Dcount_least_logs⟩ := T.d_count_least_logs
  have Gcount_least_logs : FnOk P w K mg base (L2.CX P w) 5 fcount_least_logs fdcount_least_logs ["goal"] (spcount_least_logs K) := okcount_least_logs T Dcount_least_logs
  obtain ⟨fclosed_rings, fdclosed_rings, Dclosed_rings⟩ := T.d_closed_rings
  have Gclosed_rings : FnOk P w K mg base (L2.CX P w) 4 fclosed_rings fdclosed_rings ["goal"] (spclosed_rings K) := okclosed_rings T Dclosed_rings
  obtain ⟨ffewest_copies, fdfewest_copies, Dfewest_copies⟩ := T.d_fewest_copies
  have Gfewest_copies : FnOk P w K mg base (L2.CX P w) 5 ffewest_copies fdfewest_copies ["goal"] (spfewest_copies K) := okfewest_copies T Dfewest_copies
  obtain ⟨fleast_log, fdleast_log, Dleast_log⟩ := T.d_least_log
  have Gleast_log : FnOk P w K mg base (L2.CX P w) 5 fleast_log fdleast_log ["goal"] (spleast_log K) := okleast_log T Dleast_log
  obtain ⟨ffewest_stages, fdfewest_stages, Dfewest_stages⟩ := T.d_fewest_stages
  have Gfewest_stages : FnOk P w K mg base (L2.CX P w) 4 ffewest_stages fdfewest_stages ["goal"] (spfewest_stages K) := okfewest_stages T Dfewest_stages
  refine D.F.okX sc_law_call (fun vs H Q E h => ?_) (fun cdv A outer s H vs Q E hr h => ?_)
  · obtain ⟨d, v, M, k, rfl, _⟩ := h
    rfl
  · obtain ⟨d, v, M, k, rfl, bad, q⟩ := h
    refine ⟨_, (pss_cons (ps_if (pt_cmpR op_eq (pv 0) pe_int (nomark _)) (pss_one (ps_ret (pe_callS Gcheck_goal (hr.mono (by decide)) (by rfl) Dcheck_goal.g Dcheck_goal.F.kp Dcheck_goal.b (fun σ => passAt (takes_of rfl rfl rfl rfl) σ) (pa_cons (pv 1) pa_nil)))) pss_nil)
    (pss_cons (ps_if (pt_cmpR op_eq (pv 0) pe_int (nomark _)) (pss_one (ps_ret (pe_callS Ghomeless (hr.mono (by decide)) (by rfl) Dhomeless.g Dhomeless.F.kp Dhomeless.b (fun σ => passAt (takes_of rfl rfl rfl rfl) σ) (pa_cons (pv 1) pa_nil)))) pss_nil)
    (pss_cons (ps_if (pt_cmpR op_eq (pv 0) pe_int (nomark _)) (pss_one (ps_ret (pe_callS Gsafe_log (hr.mono (by decide)) (by rfl) Dsafe_log.g Dsafe_log.F.kp Dsafe_log.b (fun σ => passAt (takes_of rfl rfl rfl rfl) σ) (pa_cons (pv 1) pa_nil)))) pss_nil)
    (pss_cons (ps_if (pt_cmpR op_eq (pv 0) pe_int (nomark _)) (pss_one (ps_ret (pe_callS Gcount_least_logs (hr.mono (by decide)) (by rfl) Dcount_least_logs.g Dcount_least_logs.F.kp Dcount_least_logs.b (fun σ => passAt (takes_of rfl rfl rfl rfl) σ) (pa_cons (pv 1) pa_nil)))) pss_nil)
    (pss_cons (ps_if (pt_cmpR op_eq (pv 0) pe_int (nomark _)) (pss_one (ps_ret (pe_callS Gclosed_rings (hr.mono (by decide)) (by rfl) Dclosed_rings.g Dclosed_rings.F.kp Dclosed_rings.b (fun σ => passAt (takes_of rfl rfl rfl rfl) σ) (pa_cons (pv 1) pa_nil)))) pss_nil)
    (pss_cons (ps_if (pt_cmpR op_eq (pv 0) pe_int (nomark _)) (pss_one (ps_ret (pe_callS Gfewest_copies (hr.mono (by decide)) (by rfl) Dfewest_copies.g Dfewest_copies.F.kp Dfewest_copies.b (fun σ => passAt (takes_of rfl rfl rfl rfl) σ) (pa_cons (pv 1) pa_nil)))) pss_nil)
    (pss_cons (ps_if (pt_cmpR op_eq (pv 0) pe_int (nomark _)) (pss_one (ps_ret (pe_callS Gleast_log (hr.mono (by decide)) (by rfl) Dleast_log.g Dleast_log.F.kp Dleast_log.b (fun σ => passAt (takes_of rfl rfl rfl rfl) σ) (pa_cons (pv 1) pa_nil)))) pss_nil)
    (pss_cons (ps_if (pt_cmpR op_eq (pv 0) pe_int (nomark _)) (pss_one (ps_ret (pe_callS Gfewest_stages (hr.mono (by decide)) (by rfl) Dfewest_stages.g Dfewest_stages.F.kp Dfewest_stages.b (fun σ => passAt (takes_of rfl rfl rfl rfl) σ) (pa_cons (pv 1) pa_nil)))) pss_nil)
    (pss_cons (ps_forR (N := fun c => c = .ref (atTop K "InvalidGoal")) Gleast_logs hr rfl (by rfl) Dleast_logs.g Dleast_logs.F.kp Dleast_logs.b (fun σ => passN (takes_of rfl rfl rfl rfl) σ) (fun c e => by rw [e]; exact T.ns_InvalidGoal) (passes_of rfl) (pa_cons (pv 1) pa_nil))
    (pss_one (ps_ret pe_non))))))))))), ?_⟩
    walk_at "rx"
    refine ite2 (fun z => ?_) (fun z => ?_)
    · walk_at "rx"
      exact ⟨v, rfl, .inr ⟨M, k, bad, q⟩⟩
    walk_at "rx"
    refine ite2 (fun z => ?_) (fun z => ?_)
    · walk_at "rx"
      exact ⟨v, rfl, .inr ⟨M, k, bad, q⟩⟩
    walk_at "rx"
    refine ite2 (fun z => ?_) (fun z => ?_)
    · walk_at "rx"
      exact ⟨v, M, k, rfl, bad, q⟩
    walk_at "rx"
    refine ite2 (fun z => ?_) (fun z => ?_)
    · walk_at "rx"
      exact ⟨v, M, k, rfl, bad, q⟩
    walk_at "rx"
    refine ite2 (fun z => ?_) (fun z => ?_)
    · walk_at "rx"
      exact ⟨v, M, k, rfl, bad, q⟩
    walk_at "rx"
    refine ite2 (fun z => ?_) (fun z => ?_)
    · walk_at "rx"
      exact ⟨v, M, k, rfl, bad, q⟩
    walk_at "rx"
    refine ite2 (fun z => ?_) (fun z => ?_)
    · walk_at "rx"
      exact ⟨v, M, k, rfl, bad, q⟩
    walk_at "rx"
    refine ite2 (fun z => ?_) (fun z => ?_)
    · walk_at "rx"
      exact ⟨v, M, k, rfl, bad, q⟩
    walk_at "rx"
    refine rd_forR ?_
    walk_at "rx"
    exact ⟨v, M, k, rfl, bad, fun H' d S hd => ⟨rfl, q H' d S hd⟩⟩
def sp_law_refused (_K : PySem.W.Frag) : Sp := fun vs H Q _ => ∃ (d : Int) (v : V) (M : List Addr) (k : Int), vs = [.int d, v, .int k] ∧ GoalBad M H v k ∧ ∀ H', Same H H' → Q (.bl true) H'
set_option maxHeartbeats 4000000 in
theorem ok_law_refused (T : Top K mg) {f : Addr} {fd : FuncData} (D : Def K mg "_law_refused" s_law_refused ["door", "goal", "due"] f fd) : FnOk P w K mg base CX0 8 f fd ["door", "goal", "due"] (sp_law_refused K) := by
  obtain ⟨fE_InvalidGoal, fdE_InvalidGoal, ET_InvalidGoal, FE_InvalidGoal, bE_InvalidGoal⟩ := T.e_InvalidGoal
  have GI_InvalidGoal := okInit_InvalidGoal (P := P) (w := w) (base := base) ET_InvalidGoal FE_InvalidGoal
  obtain ⟨f_law_call, fd_law_call, D_law_call⟩ := T.d__law_call
  have G_law_call : FnOk P w K mg base (L2.CX P w) 7 f_law_call fd_law_call ["door", "goal"] (sp_law_call K) := ok_law_call T D_law_call
  obtain ⟨f_law_is_number, fd_law_is_number, D_law_is_number⟩ := T.d__law_is_number
  have G_law_is_number : FnOk P w K mg base CX0 1 f_law_is_number fd_law_is_number ["told"] (sp_law_is_number K) := ok_law_is_number T D_law_is_number
  have GQ_law_is_number : FnQ P w K mg base 1 f_law_is_number fd_law_is_number ["told"] (sp_law_is_number K) := okQ_law_is_number T D_law_is_number
  refine D.F.ok sc_law_refused (fun vs H Q E h => ?_) (fun cdv A outer s H vs Q E hr h => ?_)
  · obtain ⟨d, v, M, k, rfl, _⟩ := h
    rfl
  · obtain ⟨d, v, M, k, rfl, bad, q⟩ := h
    refine ⟨_, (pss_cons (ps_tryM [(.ref (atTop K "InvalidGoal"), 3, _)] (_) rfl rfl sc_law_refused.nd (fun W pn xe tk => (pss_one (ps_expr (pe_callS G_law_call hr (by rfl) D_law_call.g D_law_call.F.kp D_law_call.b (fun σ => passAt tk σ) (pa_cons (pv 0) (pa_cons (pv 1) pa_nil)))))) (.cons ⟨rfl, by decide, .inl ET_InvalidGoal.gC⟩ rfl rfl (fun a oe cls d pn hz hf => (pss_cons (ps_if (PW.pt (pw_or (pt_val (pe_callB (call_isX ET_InvalidGoal.ec ET_InvalidGoal.icl hz hf) (by rfl) T.b_isinstance (by decide +kernel) (pa_cons (pv 3) (pa_cons (Rv.pe_k (by rfl) T.c_NoSafeLog) pa_nil)))) (pw_or (pt_val (pe_callB (call_isX ET_InvalidGoal.ec ET_InvalidGoal.icl hz hf) (by rfl) T.b_isinstance (by decide +kernel) (pa_cons (pv 3) (pa_cons (Rv.pe_k (by rfl) T.c_NoLog) pa_nil)))) (pw_or1 (pt_val (pe_callB (call_isX ET_InvalidGoal.ec ET_InvalidGoal.icl hz hf) (by rfl) T.b_isinstance (by decide +kernel) (pa_cons (pv 3) (pa_cons (Rv.pe_k (by rfl) T.c_TooMany) pa_nil)))))))) (pss_one (ps_ret pe_bl)) pss_nil)
    (pss_cons (ps_if (PW.pt (pw_or (pt_not (pt_val (pe_callB (call_isX ET_InvalidGoal.ec ET_InvalidGoal.icl hz hf) (by rfl) T.b_isinstance (by decide +kernel) (pa_cons (pv 3) (pa_cons (Rv.pe_k (by rfl) T.c_RedoError) pa_nil))))) (pw_or1 (pt_not (pt_val (pe_callB (call_isX ET_InvalidGoal.ec ET_InvalidGoal.icl hz hf) (by rfl) T.b_isinstance (by decide +kernel) (pa_cons (pv 3) (pa_cons (pe_bltn (v := .ty "ValueError") (by rfl) T.b_ValueError (by decide +kernel) rfl) pa_nil)))))))) (pss_one (ps_ret pe_bl)) pss_nil)
    (pss_one (ps_ret (pe_and (pe_callQ GQ_law_is_number (roomQ hr (by decide) _) List.mem_cons_self (by rfl) D_law_is_number.g D_law_is_number.F.kp D_law_is_number.b (pa_cons (pe_xf ET_InvalidGoal.xf ET_InvalidGoal.noN hz hf (pv 3)) pa_nil)) (pe_one (pe_cmpR op_eq (pe_xf ET_InvalidGoal.xf ET_InvalidGoal.noN hz hf (pv 3)) (pv 2) (nomark _))))))))) .nil))
    (pss_one (ps_ret pe_bl))), ?_⟩
    walk_at "rx"
    refine ⟨d, v, M, k, rfl, bad, fun H1 dd S1 hd => ?_⟩
    refine ⟨true, T.x_InvalidGoal_InvalidGoal, iteT fun a na => ?_⟩
    walk_at "rx"
    refine ⟨.ref (atTop K "NoSafeLog"), .ref (atTop K "NoSafeLog"), false, dd, _, rfl, fun u h => h, T.k_InvalidGoal_NoSafeLog, rfl, rfl, hd, ?_⟩
    walk_at "rx"
    refine ⟨.ref (atTop K "NoLog"), .ref (atTop K "NoLog"), false, dd, _, rfl, fun u h => h, T.k_InvalidGoal_NoLog, rfl, rfl, hd, ?_⟩
    walk_at "rx"
    refine ⟨.ref (atTop K "TooMany"), .ref (atTop K "TooMany"), false, dd, _, rfl, fun u h => h, T.k_InvalidGoal_TooMany, rfl, rfl, hd, ?_⟩
    walk_at "rx"
    refine ⟨.ref (atTop K "RedoError"), .ref (atTop K "RedoError"), true, dd, _, rfl, fun u h => h, T.k_InvalidGoal_RedoError, rfl, rfl, hd, ?_⟩
    walk_at "rx"
    refine ⟨.ty "ValueError", .type "ValueError", true, dd, _, rfl, fun u h => h, T.k_InvalidGoal_ValueError, rfl, rfl, hd, ?_⟩
    walk_at "rx"
    refine ⟨rfl, rfl, dd, _, .int k, rfl, hd, by simp [List.lookup], ?_⟩
    walk_at "rx"
    refine ⟨_, rfl, ?_⟩
    walk_at "rx"
    refine ⟨rfl, rfl, dd, _, .int k, rfl, hd, by simp [List.lookup], ?_⟩
    walk_at "rx"
    rw [decide_eq_true (show V.int k = V.int k from rfl)]
    exact q H1 S1
def sp_law_count (_K : PySem.W.Frag) : Sp := fun vs H Q _ => ∃ b : Nat, vs = [.int (b : Int)] ∧ b ≤ 12 ∧ Q (.int (lct b b)) H
set_option maxHeartbeats 4000000 in
theorem ok_law_count (T : Top K mg) {f : Addr} {fd : FuncData} (D : Def K mg "_law_count" s_law_count ["blocks"] f fd) : FnOk P w K mg base CX0 1 f fd ["blocks"] (sp_law_count K) := by
  refine D.F.ok sc_law_count (fun vs H Q E h => ?_) (fun cdv A outer s H vs Q E hr h => ?_)
  · obtain ⟨b, rfl, _⟩ := h
    rfl
  · obtain ⟨b, rfl, b12, q⟩ := h
    refine ⟨_, (pss_cons (ps_set (i := 1) sc_law_count.nd rfl (.inl rfl) pe_int)
    (pss_cons (ps_set (i := 2) sc_law_count.nd rfl (.inl rfl) pe_int)
    (pss_cons (ps_for PassesOwn.never rfl (pi_range2 (by rfl) T.b_range (pa_cons pe_int (pa_cons (pe_op op_add (pv 0) pe_int) pa_nil))) (pg_name (i := 3) sc_law_count.nd rfl (.inl rfl)) (pss_cons (ps_set (i := 2) sc_law_count.nd rfl (.inl rfl) (pe_op op_fdivV (pe_op op_mul (pv 2) (pe_op op_sub (pe_op op_add (pv 0) pe_int) (pv 3))) (pv 3)))
    (pss_cons (ps_set (i := 4) sc_law_count.nd rfl (.inl rfl) (pv 2))
    (pss_cons (ps_for PassesOwn.never rfl (pi_range1 (by rfl) T.b_range (pa_cons (pe_op op_sub (pv 0) (pv 3)) pa_nil)) (pg_name (i := 5) sc_law_count.nd rfl (.inl rfl)) (pss_one (ps_set (i := 4) sc_law_count.nd rfl (.inl rfl) (pe_op op_mul (pv 4) (pv 3)))))
    (pss_one (ps_set (i := 1) sc_law_count.nd rfl (.inl rfl) (pe_op op_add (pv 1) (pv 4))))))))
    (pss_one (ps_ret (pv 1)))))), ?_⟩
    walk_at "rx"
    refine rd_Rg2 (by omega) ?_
    refine fr_rng (fun i σ H' => ∃ (y3 y4 y5 : Option V), σ = [some (.int (b : Int)), some (.int (lct b i)), some (.int (chs b i)), y3, y4, y5] ∧ H' = H) ⟨none, none, none, rfl, rfl⟩ ?_ ?_
    · rintro i σ H1 hi ⟨y3, y4, y5, rfl, rfl⟩
      have ib : i + 1 ≤ b := by omega
      rw [show (1 : Int) + (i : Int) = ((i + 1 : Nat) : Int) by omega]
      walk_at "rx"
      refine rd_I (show CMul _ _ from .inr ⟨by omega, by omega⟩) ?_
      walk_at "rx"
      refine rd_I (show CDivV _ ((i + 1 : Nat) : Int) from ⟨by omega, by omega⟩) ?_
      have hrr : -100000 ≤ (b : Int) - ((i + 1 : Nat) : Int) ∧ (b : Int) - ((i + 1 : Nat) : Int) ≤ 100000 := by omega
      walk_at "rx"
      refine fr_rng0 (fun j σ H' => ∃ (y5 : Option V), σ = [some (.int (b : Int)), some (.int (lct b i)), some (.int (chs b (i + 1))), some (.int ((i + 1 : Nat) : Int)), some (.int (chs b (i + 1) * ((i + 1 : Nat) : Int) ^ j)), y5] ∧ H' = H1) ⟨y5, by rw [Int.pow_zero, Int.mul_one]; rfl, rfl⟩ ?_ ?_
      · rintro j σ H2 hj ⟨y5, rfl, rfl⟩
        walk_at "rx"
        refine rd_I (show CMul _ _ from .inr ⟨by omega, by omega⟩) ?_
        rw [mul_pow]
        exact ⟨_, rfl, rfl⟩
      · rintro σ H2 ⟨y5, rfl, rfl⟩
        walk_at "rx"
        rw [show ((b : Int) - ((i + 1 : Nat) : Int)).toNat = b - (i + 1) by omega]
        exact ⟨_, _, _, rfl, rfl⟩
    · rintro σ H1 ⟨y3, y4, y5, rfl, rfl⟩
      rw [show ((b : Int) + 1 - 1).toNat = b by omega]
      walk_at "rx"
      exact q
def splaw (K : PySem.W.Frag) : Sp := fun vs H Q _ => ∃ (a : Addr) (ns : List Int), vs = [.ref a] ∧ SqL K H a (ns.map V.int) ∧ ns.length ≤ 63 ∧ ∀ H', Q (.bl true) H'
set_option maxHeartbeats 4000000 in
theorem oklaw (T : Top K mg) {f : Addr} {fd : FuncData} (D : Def K mg "law" slaw ["script"] f fd) : FnOk P w K mg base CX0 9 f fd ["script"] (splaw K) := by
  obtain ⟨f_law_bag, fd_law_bag, D_law_bag⟩ := T.d__law_bag
  have G_law_bag : FnOk P w K mg base CX0 1 f_law_bag fd_law_bag ["script"] (sp_law_bag K) := ok_law_bag T D_law_bag
  obtain ⟨f_law_goal, fd_law_goal, D_law_goal⟩ := T.d__law_goal
  have G_law_goal : FnOk P w K mg base CX0 2 f_law_goal fd_law_goal ["bag"] (sp_law_goal K) := ok_law_goal T D_law_goal
  obtain ⟨f_law_spoilt, fd_law_spoilt, D_law_spoilt⟩ := T.d__law_spoilt
  have G_law_spoilt : FnOk P w K mg base CX0 3 f_law_spoilt fd_law_spoilt ["bag", "goal"] (sp_law_spoilt K) := ok_law_spoilt T D_law_spoilt
  obtain ⟨fcount_safe_goals, fdcount_safe_goals, Dcount_safe_goals⟩ := T.d_count_safe_goals
  have Gcount_safe_goals : FnOk P w K mg base CX0 1 fcount_safe_goals fdcount_safe_goals ["blocks"] (spcount_safe_goals K) := okcount_safe_goals T Dcount_safe_goals
  obtain ⟨f_law_small_right, fd_law_small_right, D_law_small_right⟩ := T.d__law_small_right
  have G_law_small_right : FnOk P w K mg base CX0 5 f_law_small_right fd_law_small_right ["blocks"] (sp_law_small_right K) := ok_law_small_right T D_law_small_right
  obtain ⟨f_law_take, fd_law_take, D_law_take⟩ := T.d__law_take
  have G_law_take : FnOk P w K mg base CX0 1 f_law_take fd_law_take ["bag", "many"] (sp_law_take K) := ok_law_take T D_law_take
  obtain ⟨fcheck_goal, fdcheck_goal, Dcheck_goal⟩ := T.d_check_goal
  have Gcheck_goal : FnOk P w K mg base (L2.CX P w) 3 fcheck_goal fdcheck_goal ["goal"] (spcheck_goal K) := okcheck_goal T Dcheck_goal
  obtain ⟨f_law_is_numbers, fd_law_is_numbers, D_law_is_numbers⟩ := T.d__law_is_numbers
  have G_law_is_numbers : FnOk P w K mg base CX0 2 f_law_is_numbers fd_law_is_numbers ["told", "due"] (sp_law_is_numbers K) := ok_law_is_numbers T D_law_is_numbers
  obtain ⟨fhomeless, fdhomeless, Dhomeless⟩ := T.d_homeless
  have Ghomeless : FnOk P w K mg base (L2.CX P w) 4 fhomeless fdhomeless ["goal"] (sphomeless K) := okhomeless T Dhomeless
  obtain ⟨f_law_homeless, fd_law_homeless, D_law_homeless⟩ := T.d__law_homeless
  have G_law_homeless : FnOk P w K mg base CX0 1 f_law_homeless fd_law_homeless ["goal"] (sp_law_homeless K) := ok_law_homeless T D_law_homeless
  obtain ⟨f_law_refused, fd_law_refused, D_law_refused⟩ := T.d__law_refused
  have G_law_refused : FnOk P w K mg base CX0 8 f_law_refused fd_law_refused ["door", "goal", "due"] (sp_law_refused K) := ok_law_refused T D_law_refused
  obtain ⟨f_law_is_number, fd_law_is_number, D_law_is_number⟩ := T.d__law_is_number
  have G_law_is_number : FnOk P w K mg base CX0 1 f_law_is_number fd_law_is_number ["told"] (sp_law_is_number K) := ok_law_is_number T D_law_is_number
  obtain ⟨f_law_count, fd_law_count, D_law_count⟩ := T.d__law_count
  have G_law_count : FnOk P w K mg base CX0 1 f_law_count fd_law_count ["blocks"] (sp_law_count K) := ok_law_count T D_law_count
  refine D.F.ok sclaw (fun vs H Q E h => ?_) (fun cdv A outer s H vs Q E hr h => ?_)
  · obtain ⟨a, ns, rfl, _⟩ := h
    rfl
  · obtain ⟨a, ns, rfl, hS, hl, q⟩ := h
    have h9 : -100000 ≤ (9 : Int) ∧ (9 : Int) ≤ 100000 := by decide
    refine ⟨_, (pss_cons (ps_set (i := 1) sclaw.nd rfl (.inl rfl) (pe_call G_law_bag (hr.mono (by decide)) (by rfl) D_law_bag.g D_law_bag.F.kp D_law_bag.b .nil pass0 (pa_cons (pv 0) pa_nil)))
    (pss_cons (ps_set (i := 2) sclaw.nd rfl (.inl rfl) (pe_call G_law_goal (hr.mono (by decide)) (by rfl) D_law_goal.g D_law_goal.F.kp D_law_goal.b .nil pass0 (pa_cons (pv 1) pa_nil)))
    (pss_cons (ps_set (i := 3) sclaw.nd rfl (.inl rfl) (pe_call G_law_spoilt (hr.mono (by decide)) (by rfl) D_law_spoilt.g D_law_spoilt.F.kp D_law_spoilt.b .nil pass0 (pa_cons (pv 1) (pa_cons (pv 2) pa_nil))))
    (pss_cons (ps_set (i := 4) sclaw.nd rfl (.inl rfl) (pe_ix (r := rIxL K) ix_list (pe_lst (pa_cons pe_int (pa_cons pe_int (pa_cons pe_int (pa_cons pe_int (pa_cons pe_int (pa_cons pe_int pa_nil))))))) (pe_call G_law_take (hr.mono (by decide)) (by rfl) D_law_take.g D_law_take.F.kp D_law_take.b .nil pass0 (pa_cons (pv 1) (pa_cons pe_int pa_nil))) (fun _ _ => rfl)))
    (pss_cons (ps_set (i := 5) sclaw.nd rfl (.inl rfl) (pe_op op_add pe_int (pe_call G_law_take (hr.mono (by decide)) (by rfl) D_law_take.g D_law_take.F.kp D_law_take.b .nil pass0 (pa_cons (pv 1) (pa_cons pe_int pa_nil)))))
    (pss_cons (ps_if (pt_cmpR op_notNQ (pe_call Gcheck_goal (hr.mono (by decide)) (by rfl) Dcheck_goal.g Dcheck_goal.F.kp Dcheck_goal.b .nil passL (pa_cons (pv 2) pa_nil)) pe_non (nomark _)) (pss_one (ps_ret pe_bl)) pss_nil)
    (pss_cons (ps_if (pt_not (pt_val (pe_call G_law_is_numbers (hr.mono (by decide)) (by rfl) D_law_is_numbers.g D_law_is_numbers.F.kp D_law_is_numbers.b .nil pass0 (pa_cons (pe_call Ghomeless (hr.mono (by decide)) (by rfl) Dhomeless.g Dhomeless.F.kp Dhomeless.b .nil passL (pa_cons (pv 2) pa_nil)) (pa_cons (pe_call G_law_homeless (hr.mono (by decide)) (by rfl) D_law_homeless.g D_law_homeless.F.kp D_law_homeless.b .nil pass0 (pa_cons (pv 2) pa_nil)) pa_nil))))) (pss_one (ps_ret pe_bl)) pss_nil)
    (pss_cons (ps_for PassesOwn.never rfl (pi_range1 (by rfl) T.b_range (pa_cons pe_int pa_nil)) (pg_name (i := 6) sclaw.nd rfl (.inl rfl)) (pss_one (ps_if (pt_not (pt_val (pe_call G_law_refused hr (by rfl) D_law_refused.g D_law_refused.F.kp D_law_refused.b .nil pass0 (pa_cons (pv 6) (pa_cons (pe_ix (r := rIxL K) ix_list (pv 3) pe_int (fun _ _ => rfl)) (pa_cons (pe_ix (r := rIxL K) ix_list (pv 3) pe_int (fun _ _ => rfl)) pa_nil)))))) (pss_one (ps_ret pe_bl)) pss_nil)))
    (pss_cons (ps_set (i := 7) sclaw.nd rfl (.inl rfl) (pe_call Gcount_safe_goals (hr.mono (by decide)) (by rfl) Dcount_safe_goals.g Dcount_safe_goals.F.kp Dcount_safe_goals.b .nil pass0 (pa_cons (pv 5) pa_nil)))
    (pss_cons (ps_if (PW.pt (pw_or (pt_not (pt_val (pe_call G_law_is_number (hr.mono (by decide)) (by rfl) D_law_is_number.g D_law_is_number.F.kp D_law_is_number.b .nil pass0 (pa_cons (pv 7) pa_nil)))) (pw_or1 (pt_cmpR op_ne (pv 7) (pe_call G_law_count (hr.mono (by decide)) (by rfl) D_law_count.g D_law_count.F.kp D_law_count.b .nil pass0 (pa_cons (pv 5) pa_nil)) (nomark _))))) (pss_one (ps_ret pe_bl)) pss_nil)
    (pss_one (ps_ret (pe_call G_law_small_right (hr.mono (by decide)) (by rfl) D_law_small_right.g D_law_small_right.F.kp D_law_small_right.b .nil pass0 (pa_cons (pv 4) pa_nil)))))))))))))), ?_⟩
    walk_at "rx"
    refine ⟨a, ns, rfl, hS, hl, fun H1 B hB i1 _ => ?_⟩
    walk_at "rx"
    refine ⟨B, rfl, hB, i1, fun H2 g gs w2 hg G => ?_⟩
    walk_at "rx"
    refine ⟨B, g, gs, rfl, hB, w2.i1, hg, G, fun H3 D v k w3 mD hD bad => ?_⟩
    have w03 := w2.trans w3
    have hg3 := w3.tup hg
    walk_at "rx"
    refine rd_newQ (by simp) fun H4 L S4 nL hL => ?_
    have w04 := w03.same S4
    walk_at "rx"
    refine ⟨B, 6, rfl, hB, w04.i1, by decide, by decide, fun H5 d w5 hd => ?_⟩
    have hL5 := w5.lst (B.nem w03.i1 nL) hL
    have w05 := w04.trans w5
    obtain ⟨sm, es, s1, s4⟩ : ∃ sm : Nat, atI [V.int 1, V.int 2, V.int 3, V.int 3, V.int 3, V.int 4] (d : Int) = some (V.int (sm : Int)) ∧ 1 ≤ sm ∧ sm ≤ 4 := by
      have : d = 0 ∨ d = 1 ∨ d = 2 ∨ d = 3 ∨ d = 4 ∨ d = 5 := by omega
      rcases this with rfl | rfl | rfl | rfl | rfl | rfl
      · exact ⟨1, rfl, by decide, by decide⟩
      · exact ⟨2, rfl, by decide, by decide⟩
      · exact ⟨3, rfl, by decide, by decide⟩
      · exact ⟨3, rfl, by decide, by decide⟩
      · exact ⟨3, rfl, by decide, by decide⟩
      · exact ⟨4, rfl, by decide, by decide⟩
    walk_at "rx"
    refine ⟨B, 12, rfl, hB, w05.i1, by decide, by decide, fun H6 nb w6 hnb => ?_⟩
    have w06 := w05.trans w6
    obtain ⟨n, en, n1, n12⟩ : ∃ n : Nat, 1 + (nb : Int) = (n : Int) ∧ 1 ≤ n ∧ n ≤ 12 := ⟨1 + nb, by omega, by omega, by omega⟩
    have hg6 := (((w3.tup hg) |> S4 _ _) |> w5.tup) |> w6.tup
    have bad6 := ((bad.same S4).wg w5).wg w6
    have hD6 := w6.lst mD (w5.lst mD (S4 _ _ hD))
    walk_at "rx"
    rw [en]
    refine ⟨_, rfl, .inl ⟨g, gs, rfl, hg6, G, fun H7 S7 => ?_⟩⟩
    have hg7 := S7 _ _ hg6
    walk_at "rx"
    refine rd_notNQ ?_
    refine ⟨false, rfl, ?_⟩
    show if false = true then _ else _
    walk_at "rx"
    refine ⟨_, rfl, .inl ⟨g, gs, rfl, hg7, G, fun H8 T S8 hT => ?_⟩⟩
    have hg8 := S8 _ _ hg7
    have l12 := G.l12
    walk_at "rx"
    refine ⟨g, gs, rfl, hg8, l12, fun H9 L9 S9 nL9 hL9 => ?_⟩
    have hT9 := S9 _ _ hT
    have lh := homl_len (gs := gs) (k := gs.length)
    walk_at "rx"
    refine ⟨T, L9, _, rfl, hT9, hL9, by omega, ?_⟩
    refine ⟨true, rfl, ?_⟩
    show if false = true then _ else _
    have S69 := (S7.trans S8).trans S9
    have bad9 := bad6.same S69
    have hD9 := S69 _ _ hD6
    walk_at "rx"
    refine fr_rng0 (fun j σ H' => ∃ (y6 : Option V), σ = [some (.ref a), some (.ref B.b), some (.ref g), some (.ref D), some (.int (sm : Int)), some (.int (n : Int)), y6, none] ∧ Same H9 H') ⟨none, rfl, Same.refl _⟩ ?_ ?_
    · rintro j σ Ha hj ⟨y6, rfl, Sa⟩
      have hDa := Sa _ _ hD9
      walk_at "rx"
      refine ⟨_, v, B.m, k, rfl, bad9.same Sa, fun Hb Sb => ?_⟩
      refine ⟨true, rfl, ?_⟩
      show if false = true then _ else _
      walk_at "rx"
      exact ⟨_, rfl, Sa.trans Sb⟩
    · rintro σ Ha ⟨y6, rfl, Sa⟩
      walk_at "rx"
      refine ⟨n, rfl, n12, ?_⟩
      walk_at "rx"
      refine ⟨_, rfl, ?_⟩
      refine ⟨true, rfl, ?_⟩
      show if false = true then _ else _
      walk_at "rx"
      refine ⟨n, rfl, n12, ?_⟩
      walk_at "rx"
      rw [decide_eq_true (show V.int (csg n n) = V.int (lct n n) by rw [csg_lct n n12])]
      show if false = true then _ else _
      walk_at "rx"
      exact ⟨sm, rfl, s1, s4, fun H' => q H'⟩
end
theorem all_mk {l : PySem.W.OpenLaw} {w : World} {K : PySem.W.Frag} {h : Heap} {mg : Str → Option Value} {fa : Addr} (X : K.In h) (G : h.Ns mainGlobals mg) (hfa : mg "law" = some (.ref fa))
    {f0 : Addr} {od0 an0 : Option Addr} {sl0 : Array (Option Value)} {oc0 kV0 dc0 pm0 cd0 ct0 : Value}
    (a0 : PySem.W.nsIn K mainGlobals "check_goal" = some (some (.ref f0))) (l0 : K.lookup f0 = some ⟨oc0, od0, .func (PySem.W.fnOf "check_goal" "check_goal" (defArgs scheck_goal) (defBody scheck_goal) (defScope scheck_goal) .none kV0 dc0 pm0 an0 cd0 ct0), sl0⟩) (c0 : PySem.W.codeIn K cd0 "check_goal" = true) (k0 : PySem.W.keepIn K (.ref f0) = true)
    {f1 : Addr} {od1 an1 : Option Addr} {sl1 : Array (Option Value)} {oc1 kV1 dc1 pm1 cd1 ct1 : Value}
    (a1 : PySem.W.nsIn K mainGlobals "homeless" = some (some (.ref f1))) (l1 : K.lookup f1 = some ⟨oc1, od1, .func (PySem.W.fnOf "homeless" "homeless" (defArgs shomeless) (defBody shomeless) (defScope shomeless) .none kV1 dc1 pm1 an1 cd1 ct1), sl1⟩) (c1 : PySem.W.codeIn K cd1 "homeless" = true) (k1 : PySem.W.keepIn K (.ref f1) = true)
    {f2 : Addr} {od2 an2 : Option Addr} {sl2 : Array (Option Value)} {oc2 kV2 dc2 pm2 cd2 ct2 : Value}
    (a2 : PySem.W.nsIn K mainGlobals "safe_log" = some (some (.ref f2))) (l2 : K.lookup f2 = some ⟨oc2, od2, .func (PySem.W.fnOf "safe_log" "safe_log" (defArgs ssafe_log) (defBody ssafe_log) (defScope ssafe_log) .none kV2 dc2 pm2 an2 cd2 ct2), sl2⟩) (c2 : PySem.W.codeIn K cd2 "safe_log" = true) (k2 : PySem.W.keepIn K (.ref f2) = true)
    {f3 : Addr} {od3 an3 : Option Addr} {sl3 : Array (Option Value)} {oc3 kV3 dc3 pm3 cd3 ct3 : Value}
    (a3 : PySem.W.nsIn K mainGlobals "least_logs" = some (some (.ref f3))) (l3 : K.lookup f3 = some ⟨oc3, od3, .func (PySem.W.fnOf "least_logs" "least_logs" (defArgs sleast_logs) (defBody sleast_logs) (defScope sleast_logs) .none kV3 dc3 pm3 an3 cd3 ct3), sl3⟩) (c3 : PySem.W.codeIn K cd3 "least_logs" = true) (k3 : PySem.W.keepIn K (.ref f3) = true)
    {f4 : Addr} {od4 an4 : Option Addr} {sl4 : Array (Option Value)} {oc4 kV4 dc4 pm4 cd4 ct4 : Value}
    (a4 : PySem.W.nsIn K mainGlobals "count_least_logs" = some (some (.ref f4))) (l4 : K.lookup f4 = some ⟨oc4, od4, .func (PySem.W.fnOf "count_least_logs" "count_least_logs" (defArgs scount_least_logs) (defBody scount_least_logs) (defScope scount_least_logs) .none kV4 dc4 pm4 an4 cd4 ct4), sl4⟩) (c4 : PySem.W.codeIn K cd4 "count_least_logs" = true) (k4 : PySem.W.keepIn K (.ref f4) = true)
    {f5 : Addr} {od5 an5 : Option Addr} {sl5 : Array (Option Value)} {oc5 kV5 dc5 pm5 cd5 ct5 : Value}
    (a5 : PySem.W.nsIn K mainGlobals "count_safe_goals" = some (some (.ref f5))) (l5 : K.lookup f5 = some ⟨oc5, od5, .func (PySem.W.fnOf "count_safe_goals" "count_safe_goals" (defArgs scount_safe_goals) (defBody scount_safe_goals) (defScope scount_safe_goals) .none kV5 dc5 pm5 an5 cd5 ct5), sl5⟩) (c5 : PySem.W.codeIn K cd5 "count_safe_goals" = true) (k5 : PySem.W.keepIn K (.ref f5) = true)
    {f6 : Addr} {od6 an6 : Option Addr} {sl6 : Array (Option Value)} {oc6 kV6 dc6 pm6 cd6 ct6 : Value}
    (a6 : PySem.W.nsIn K mainGlobals "closed_rings" = some (some (.ref f6))) (l6 : K.lookup f6 = some ⟨oc6, od6, .func (PySem.W.fnOf "closed_rings" "closed_rings" (defArgs sclosed_rings) (defBody sclosed_rings) (defScope sclosed_rings) .none kV6 dc6 pm6 an6 cd6 ct6), sl6⟩) (c6 : PySem.W.codeIn K cd6 "closed_rings" = true) (k6 : PySem.W.keepIn K (.ref f6) = true)
    {f7 : Addr} {od7 an7 : Option Addr} {sl7 : Array (Option Value)} {oc7 kV7 dc7 pm7 cd7 ct7 : Value}
    (a7 : PySem.W.nsIn K mainGlobals "fewest_copies" = some (some (.ref f7))) (l7 : K.lookup f7 = some ⟨oc7, od7, .func (PySem.W.fnOf "fewest_copies" "fewest_copies" (defArgs sfewest_copies) (defBody sfewest_copies) (defScope sfewest_copies) .none kV7 dc7 pm7 an7 cd7 ct7), sl7⟩) (c7 : PySem.W.codeIn K cd7 "fewest_copies" = true) (k7 : PySem.W.keepIn K (.ref f7) = true)
    {f8 : Addr} {od8 an8 : Option Addr} {sl8 : Array (Option Value)} {oc8 kV8 dc8 pm8 cd8 ct8 : Value}
    (a8 : PySem.W.nsIn K mainGlobals "least_log" = some (some (.ref f8))) (l8 : K.lookup f8 = some ⟨oc8, od8, .func (PySem.W.fnOf "least_log" "least_log" (defArgs sleast_log) (defBody sleast_log) (defScope sleast_log) .none kV8 dc8 pm8 an8 cd8 ct8), sl8⟩) (c8 : PySem.W.codeIn K cd8 "least_log" = true) (k8 : PySem.W.keepIn K (.ref f8) = true)
    {f9 : Addr} {od9 an9 : Option Addr} {sl9 : Array (Option Value)} {oc9 kV9 dc9 pm9 cd9 ct9 : Value}
    (a9 : PySem.W.nsIn K mainGlobals "check_has_log" = some (some (.ref f9))) (l9 : K.lookup f9 = some ⟨oc9, od9, .func (PySem.W.fnOf "check_has_log" "check_has_log" (defArgs scheck_has_log) (defBody scheck_has_log) (defScope scheck_has_log) .none kV9 dc9 pm9 an9 cd9 ct9), sl9⟩) (c9 : PySem.W.codeIn K cd9 "check_has_log" = true) (k9 : PySem.W.keepIn K (.ref f9) = true)
    {f10 : Addr} {od10 an10 : Option Addr} {sl10 : Array (Option Value)} {oc10 kV10 dc10 pm10 cd10 ct10 : Value}
    (a10 : PySem.W.nsIn K mainGlobals "fewest_stages" = some (some (.ref f10))) (l10 : K.lookup f10 = some ⟨oc10, od10, .func (PySem.W.fnOf "fewest_stages" "fewest_stages" (defArgs sfewest_stages) (defBody sfewest_stages) (defScope sfewest_stages) .none kV10 dc10 pm10 an10 cd10 ct10), sl10⟩) (c10 : PySem.W.codeIn K cd10 "fewest_stages" = true) (k10 : PySem.W.keepIn K (.ref f10) = true)
    {f11 : Addr} {od11 an11 : Option Addr} {sl11 : Array (Option Value)} {oc11 kV11 dc11 pm11 cd11 ct11 : Value}
    (a11 : PySem.W.nsIn K mainGlobals "_law_bag" = some (some (.ref f11))) (l11 : K.lookup f11 = some ⟨oc11, od11, .func (PySem.W.fnOf "_law_bag" "_law_bag" (defArgs s_law_bag) (defBody s_law_bag) (defScope s_law_bag) .none kV11 dc11 pm11 an11 cd11 ct11), sl11⟩) (c11 : PySem.W.codeIn K cd11 "_law_bag" = true) (k11 : PySem.W.keepIn K (.ref f11) = true)
    {f12 : Addr} {od12 an12 : Option Addr} {sl12 : Array (Option Value)} {oc12 kV12 dc12 pm12 cd12 ct12 : Value}
    (a12 : PySem.W.nsIn K mainGlobals "_law_take" = some (some (.ref f12))) (l12 : K.lookup f12 = some ⟨oc12, od12, .func (PySem.W.fnOf "_law_take" "_law_take" (defArgs s_law_take) (defBody s_law_take) (defScope s_law_take) .none kV12 dc12 pm12 an12 cd12 ct12), sl12⟩) (c12 : PySem.W.codeIn K cd12 "_law_take" = true) (k12 : PySem.W.keepIn K (.ref f12) = true)
    {f13 : Addr} {od13 an13 : Option Addr} {sl13 : Array (Option Value)} {oc13 kV13 dc13 pm13 cd13 ct13 : Value}
    (a13 : PySem.W.nsIn K mainGlobals "_law_is_number" = some (some (.ref f13))) (l13 : K.lookup f13 = some ⟨oc13, od13, .func (PySem.W.fnOf "_law_is_number" "_law_is_number" (defArgs s_law_is_number) (defBody s_law_is_number) (defScope s_law_is_number) .none kV13 dc13 pm13 an13 cd13 ct13), sl13⟩) (c13 : PySem.W.codeIn K cd13 "_law_is_number" = true) (k13 : PySem.W.keepIn K (.ref f13) = true)
    {f14 : Addr} {od14 an14 : Option Addr} {sl14 : Array (Option Value)} {oc14 kV14 dc14 pm14 cd14 ct14 : Value}
    (a14 : PySem.W.nsIn K mainGlobals "_law_is_numbers" = some (some (.ref f14))) (l14 : K.lookup f14 = some ⟨oc14, od14, .func (PySem.W.fnOf "_law_is_numbers" "_law_is_numbers" (defArgs s_law_is_numbers) (defBody s_law_is_numbers) (defScope s_law_is_numbers) .none kV14 dc14 pm14 an14 cd14 ct14), sl14⟩) (c14 : PySem.W.codeIn K cd14 "_law_is_numbers" = true) (k14 : PySem.W.keepIn K (.ref f14) = true)
    {f15 : Addr} {od15 an15 : Option Addr} {sl15 : Array (Option Value)} {oc15 kV15 dc15 pm15 cd15 ct15 : Value}
    (a15 : PySem.W.nsIn K mainGlobals "_law_goal" = some (some (.ref f15))) (l15 : K.lookup f15 = some ⟨oc15, od15, .func (PySem.W.fnOf "_law_goal" "_law_goal" (defArgs s_law_goal) (defBody s_law_goal) (defScope s_law_goal) .none kV15 dc15 pm15 an15 cd15 ct15), sl15⟩) (c15 : PySem.W.codeIn K cd15 "_law_goal" = true) (k15 : PySem.W.keepIn K (.ref f15) = true)
    {f16 : Addr} {od16 an16 : Option Addr} {sl16 : Array (Option Value)} {oc16 kV16 dc16 pm16 cd16 ct16 : Value}
    (a16 : PySem.W.nsIn K mainGlobals "_law_odd_entry" = some (some (.ref f16))) (l16 : K.lookup f16 = some ⟨oc16, od16, .func (PySem.W.fnOf "_law_odd_entry" "_law_odd_entry" (defArgs s_law_odd_entry) (defBody s_law_odd_entry) (defScope s_law_odd_entry) .none kV16 dc16 pm16 an16 cd16 ct16), sl16⟩) (c16 : PySem.W.codeIn K cd16 "_law_odd_entry" = true) (k16 : PySem.W.keepIn K (.ref f16) = true)
    {f17 : Addr} {od17 an17 : Option Addr} {sl17 : Array (Option Value)} {oc17 kV17 dc17 pm17 cd17 ct17 : Value}
    (a17 : PySem.W.nsIn K mainGlobals "_law_spoilt" = some (some (.ref f17))) (l17 : K.lookup f17 = some ⟨oc17, od17, .func (PySem.W.fnOf "_law_spoilt" "_law_spoilt" (defArgs s_law_spoilt) (defBody s_law_spoilt) (defScope s_law_spoilt) .none kV17 dc17 pm17 an17 cd17 ct17), sl17⟩) (c17 : PySem.W.codeIn K cd17 "_law_spoilt" = true) (k17 : PySem.W.keepIn K (.ref f17) = true)
    {f18 : Addr} {od18 an18 : Option Addr} {sl18 : Array (Option Value)} {oc18 kV18 dc18 pm18 cd18 ct18 : Value}
    (a18 : PySem.W.nsIn K mainGlobals "_law_call" = some (some (.ref f18))) (l18 : K.lookup f18 = some ⟨oc18, od18, .func (PySem.W.fnOf "_law_call" "_law_call" (defArgs s_law_call) (defBody s_law_call) (defScope s_law_call) .none kV18 dc18 pm18 an18 cd18 ct18), sl18⟩) (c18 : PySem.W.codeIn K cd18 "_law_call" = true) (k18 : PySem.W.keepIn K (.ref f18) = true)
    {f19 : Addr} {od19 an19 : Option Addr} {sl19 : Array (Option Value)} {oc19 kV19 dc19 pm19 cd19 ct19 : Value}
    (a19 : PySem.W.nsIn K mainGlobals "_law_refused" = some (some (.ref f19))) (l19 : K.lookup f19 = some ⟨oc19, od19, .func (PySem.W.fnOf "_law_refused" "_law_refused" (defArgs s_law_refused) (defBody s_law_refused) (defScope s_law_refused) .none kV19 dc19 pm19 an19 cd19 ct19), sl19⟩) (c19 : PySem.W.codeIn K cd19 "_law_refused" = true) (k19 : PySem.W.keepIn K (.ref f19) = true)
    {f20 : Addr} {od20 an20 : Option Addr} {sl20 : Array (Option Value)} {oc20 kV20 dc20 pm20 cd20 ct20 : Value}
    (a20 : PySem.W.nsIn K mainGlobals "_law_homeless" = some (some (.ref f20))) (l20 : K.lookup f20 = some ⟨oc20, od20, .func (PySem.W.fnOf "_law_homeless" "_law_homeless" (defArgs s_law_homeless) (defBody s_law_homeless) (defScope s_law_homeless) .none kV20 dc20 pm20 an20 cd20 ct20), sl20⟩) (c20 : PySem.W.codeIn K cd20 "_law_homeless" = true) (k20 : PySem.W.keepIn K (.ref f20) = true)
    {f21 : Addr} {od21 an21 : Option Addr} {sl21 : Array (Option Value)} {oc21 kV21 dc21 pm21 cd21 ct21 : Value}
    (a21 : PySem.W.nsIn K mainGlobals "_law_every" = some (some (.ref f21))) (l21 : K.lookup f21 = some ⟨oc21, od21, .func (PySem.W.fnOf "_law_every" "_law_every" (defArgs s_law_every) (defBody s_law_every) (defScope s_law_every) .none kV21 dc21 pm21 an21 cd21 ct21), sl21⟩) (c21 : PySem.W.codeIn K cd21 "_law_every" = true) (k21 : PySem.W.keepIn K (.ref f21) = true)
    {f22 : Addr} {od22 an22 : Option Addr} {sl22 : Array (Option Value)} {oc22 kV22 dc22 pm22 cd22 ct22 : Value}
    (a22 : PySem.W.nsIn K mainGlobals "_law_small_right" = some (some (.ref f22))) (l22 : K.lookup f22 = some ⟨oc22, od22, .func (PySem.W.fnOf "_law_small_right" "_law_small_right" (defArgs s_law_small_right) (defBody s_law_small_right) (defScope s_law_small_right) .none kV22 dc22 pm22 an22 cd22 ct22), sl22⟩) (c22 : PySem.W.codeIn K cd22 "_law_small_right" = true) (k22 : PySem.W.keepIn K (.ref f22) = true)
    {f23 : Addr} {od23 an23 : Option Addr} {sl23 : Array (Option Value)} {oc23 kV23 dc23 pm23 cd23 ct23 : Value}
    (a23 : PySem.W.nsIn K mainGlobals "_law_count" = some (some (.ref f23))) (l23 : K.lookup f23 = some ⟨oc23, od23, .func (PySem.W.fnOf "_law_count" "_law_count" (defArgs s_law_count) (defBody s_law_count) (defScope s_law_count) .none kV23 dc23 pm23 an23 cd23 ct23), sl23⟩) (c23 : PySem.W.codeIn K cd23 "_law_count" = true) (k23 : PySem.W.keepIn K (.ref f23) = true)
    {f24 : Addr} {od24 an24 : Option Addr} {sl24 : Array (Option Value)} {oc24 kV24 dc24 pm24 cd24 ct24 : Value}
    (a24 : PySem.W.nsIn K mainGlobals "law" = some (some (.ref f24))) (l24 : K.lookup f24 = some ⟨oc24, od24, .func (PySem.W.fnOf "law" "law" (defArgs slaw) (defBody slaw) (defScope slaw) .none kV24 dc24 pm24 an24 cd24 ct24), sl24⟩) (c24 : PySem.W.codeIn K cd24 "law" = true) (k24 : PySem.W.keepIn K (.ref f24) = true)
    (z0 : PySem.W.nsIn K mainGlobals "ValueError" = some none)
    (z1 : PySem.W.nsIn K mainGlobals "bool" = some none)
    (z2 : PySem.W.nsIn K mainGlobals "enumerate" = some none)
    (z3 : PySem.W.nsIn K mainGlobals "int" = some none)
    (z4 : PySem.W.nsIn K mainGlobals "isinstance" = some none)
    (z5 : PySem.W.nsIn K mainGlobals "len" = some none)
    (z6 : PySem.W.nsIn K mainGlobals "list" = some none)
    (z7 : PySem.W.nsIn K mainGlobals "range" = some none)
    (z8 : PySem.W.nsIn K mainGlobals "sorted" = some none)
    (z9 : PySem.W.nsIn K mainGlobals "str" = some none)
    (z10 : PySem.W.nsIn K mainGlobals "tuple" = some none)
    {t0 : Tok} (y0 : PySem.W.nsIn K mainGlobals "MOST_BLOCKS_goals" = some (some (.int (12) t0)))
    {C_InvalidGoal : Addr}
    (eC_InvalidGoal : PySem.W.nsIn K mainGlobals "InvalidGoal" = some (some (.ref C_InvalidGoal)))
    (eIc_InvalidGoal : PySem.W.isClsIn K C_InvalidGoal = true)
    (eTy_InvalidGoal : PySem.W.typeIn K (.ref C_InvalidGoal) = some (.type "type"))
    (eSb_InvalidGoal : PySem.W.subIn K (.ref C_InvalidGoal) (.type "BaseException") = some true)
    (eSs_InvalidGoal : PySem.W.subIn K (.ref C_InvalidGoal) (.ref C_InvalidGoal) = some true)
    {C_NoSafeLog : Addr}
    (eC_NoSafeLog : PySem.W.nsIn K mainGlobals "NoSafeLog" = some (some (.ref C_NoSafeLog)))
    (eIc_NoSafeLog : PySem.W.isClsIn K C_NoSafeLog = true)
    (eTy_NoSafeLog : PySem.W.typeIn K (.ref C_NoSafeLog) = some (.type "type"))
    (eSb_NoSafeLog : PySem.W.subIn K (.ref C_NoSafeLog) (.type "BaseException") = some true)
    (eSs_NoSafeLog : PySem.W.subIn K (.ref C_NoSafeLog) (.ref C_NoSafeLog) = some true)
    {C_NoLog : Addr}
    (eC_NoLog : PySem.W.nsIn K mainGlobals "NoLog" = some (some (.ref C_NoLog)))
    (eIc_NoLog : PySem.W.isClsIn K C_NoLog = true)
    (eTy_NoLog : PySem.W.typeIn K (.ref C_NoLog) = some (.type "type"))
    (eSb_NoLog : PySem.W.subIn K (.ref C_NoLog) (.type "BaseException") = some true)
    (eSs_NoLog : PySem.W.subIn K (.ref C_NoLog) (.ref C_NoLog) = some true)
    {C_TooMany : Addr}
    (eC_TooMany : PySem.W.nsIn K mainGlobals "TooMany" = some (some (.ref C_TooMany)))
    (eIc_TooMany : PySem.W.isClsIn K C_TooMany = true)
    (eTy_TooMany : PySem.W.typeIn K (.ref C_TooMany) = some (.type "type"))
    (eSb_TooMany : PySem.W.subIn K (.ref C_TooMany) (.type "BaseException") = some true)
    (eSs_TooMany : PySem.W.subIn K (.ref C_TooMany) (.ref C_TooMany) = some true)
    {C_RedoError : Addr}
    (eC_RedoError : PySem.W.nsIn K mainGlobals "RedoError" = some (some (.ref C_RedoError)))
    (eIc_RedoError : PySem.W.isClsIn K C_RedoError = true)
    (eTy_RedoError : PySem.W.typeIn K (.ref C_RedoError) = some (.type "type"))
    (eSb_RedoError : PySem.W.subIn K (.ref C_RedoError) (.type "BaseException") = some true)
    (eSs_RedoError : PySem.W.subIn K (.ref C_RedoError) (.ref C_RedoError) = some true)
    {fI_InvalidGoal : Addr} {nm_InvalidGoal q_InvalidGoal : Str} {NE_InvalidGoal : Addr} {bs_InvalidGoal : List Value} {sn_InvalidGoal : List Str} {sub_InvalidGoal : List Value} {ab_InvalidGoal : Bool} {col_InvalidGoal : Option Bool} {dd_InvalidGoal : Option Addr} {m0_InvalidGoal m1_InvalidGoal m2_InvalidGoal m3_InvalidGoal m5_InvalidGoal : Option Value} {od_InvalidGoal an_InvalidGoal : Option Addr} {sl_InvalidGoal : Array (Option Value)} {oc_InvalidGoal kV_InvalidGoal dc_InvalidGoal pm_InvalidGoal cd_InvalidGoal ct_InvalidGoal : Value}
    (eX_InvalidGoal : K.lookup C_InvalidGoal = some (excClassObj nm_InvalidGoal q_InvalidGoal C_InvalidGoal NE_InvalidGoal bs_InvalidGoal [.ref C_RedoError, .type "ValueError", .type "Exception", .type "BaseException", .type "object"] true sn_InvalidGoal sub_InvalidGoal ab_InvalidGoal col_InvalidGoal dd_InvalidGoal m0_InvalidGoal m1_InvalidGoal m2_InvalidGoal m3_InvalidGoal m5_InvalidGoal "ValueError.__new__"))
    (eSa_InvalidGoal : PySem.W.findIn K (.ref C_InvalidGoal) "__setattr__" = some (some (.builtin "object.__setattr__")))
    (eGa_InvalidGoal : PySem.W.findIn K (.ref C_InvalidGoal) "__getattribute__" = some (some (.builtin "BaseException.__getattribute__")))
    (eGg_InvalidGoal : PySem.W.findIn K (.ref C_InvalidGoal) "__getattr__" = some none)
    (eNb_InvalidGoal : PySem.W.findIn K (.ref C_InvalidGoal) "at" = some none)
    (eIn_InvalidGoal : PySem.W.findIn K (.ref C_InvalidGoal) "__init__" = some (some (.ref fI_InvalidGoal)))
    (eTf_InvalidGoal : PySem.W.typeIn K (.ref fI_InvalidGoal) = some (.type "function"))
    (eLk_InvalidGoal : K.lookup fI_InvalidGoal = some ⟨oc_InvalidGoal, od_InvalidGoal, .func (PySem.W.fnOf "__init__" "InvalidGoal.__init__" (defArgs sInvalidGoalu_initu) (defBody sInvalidGoalu_initu) (defScope sInvalidGoalu_initu) .none kV_InvalidGoal dc_InvalidGoal pm_InvalidGoal an_InvalidGoal cd_InvalidGoal ct_InvalidGoal), sl_InvalidGoal⟩)
    (eCd_InvalidGoal : PySem.W.codeIn K cd_InvalidGoal "InvalidGoal.__init__" = true)
    (eKf_InvalidGoal : PySem.W.keepIn K (.ref fI_InvalidGoal) = true)
    (eKp_InvalidGoal : PySem.W.keepIn K (.ref C_InvalidGoal) = true)
    (eHd_InvalidGoal : PySem.W.hasDictIn K C_InvalidGoal = true)
    (eCc_InvalidGoal : PySem.W.findIn K (.ref C_InvalidGoal) "__class__" = some (some (.builtin "object.__class__")))
    (eSp_InvalidGoal : PySem.W.specialIn K (.builtin "object.__class__") "__get__" = some (some (.builtin "getset_descriptor.__get__")))
    (eTk_InvalidGoal : PySem.W.takesIn K (.builtin "object.__class__") = some true)
    (eMo_InvalidGoal : PySem.W.mroIn K C_InvalidGoal (.type "object") = some true)
    (eS_InvalidGoal_NoSafeLog : PySem.W.subIn K (.ref C_InvalidGoal) (.ref C_NoSafeLog) = some false)
    (eS_InvalidGoal_NoLog : PySem.W.subIn K (.ref C_InvalidGoal) (.ref C_NoLog) = some false)
    (eS_InvalidGoal_TooMany : PySem.W.subIn K (.ref C_InvalidGoal) (.ref C_TooMany) = some false)
    (eS_InvalidGoal_RedoError : PySem.W.subIn K (.ref C_InvalidGoal) (.ref C_RedoError) = some true)
    (eS_InvalidGoal_ValueError : PySem.W.subIn K (.ref C_InvalidGoal) (.type "ValueError") = some true)
    (zm_comb : PySem.W.nsIn K mainGlobals "comb" = some (some (.builtin "math.comb")))
    (nsG : PySem.W.subIn K (.ref C_InvalidGoal) (.type "StopIteration") = some false)
    : ∃ fd : FuncData, (∀ (s : Shared) (v : Value), BindsTo s fd ⟨[v], []⟩ [("script", v)]) ∧ ∀ base : Heap, K.In base → base.Ns mainGlobals mg → FnOk l.prog w K mg base CX0 9 fa fd ["script"] (splaw K) := by
  have e := hfa.symm.trans (PySem.W.mg_of X G a24)
  cases e
  have T : Top K mg := ⟨def_mk X G a0 l0 c0 k0 (fun _ _ _ _ _ _ us hl => match us, hl with | [_], _ => rfl),
    def_mk X G a1 l1 c1 k1 (fun _ _ _ _ _ _ us hl => match us, hl with | [_], _ => rfl),
    def_mk X G a2 l2 c2 k2 (fun _ _ _ _ _ _ us hl => match us, hl with | [_], _ => rfl),
    def_mk X G a3 l3 c3 k3 (fun _ _ _ _ _ _ us hl => match us, hl with | [_], _ => rfl),
    def_mk X G a4 l4 c4 k4 (fun _ _ _ _ _ _ us hl => match us, hl with | [_], _ => rfl),
    def_mk X G a5 l5 c5 k5 (fun _ _ _ _ _ _ us hl => match us, hl with | [_], _ => rfl),
    def_mk X G a6 l6 c6 k6 (fun _ _ _ _ _ _ us hl => match us, hl with | [_], _ => rfl),
    def_mk X G a7 l7 c7 k7 (fun _ _ _ _ _ _ us hl => match us, hl with | [_], _ => rfl),
    def_mk X G a8 l8 c8 k8 (fun _ _ _ _ _ _ us hl => match us, hl with | [_], _ => rfl),
    def_mk X G a9 l9 c9 k9 (fun _ _ _ _ _ _ us hl => match us, hl with | [_], _ => rfl),
    def_mk X G a10 l10 c10 k10 (fun _ _ _ _ _ _ us hl => match us, hl with | [_], _ => rfl),
    def_mk X G a11 l11 c11 k11 (fun _ _ _ _ _ _ us hl => match us, hl with | [_], _ => rfl),
    def_mk X G a12 l12 c12 k12 (fun _ _ _ _ _ _ us hl => match us, hl with | [_, _], _ => rfl),
    def_mk X G a13 l13 c13 k13 (fun _ _ _ _ _ _ us hl => match us, hl with | [_], _ => rfl),
    def_mk X G a14 l14 c14 k14 (fun _ _ _ _ _ _ us hl => match us, hl with | [_, _], _ => rfl),
    def_mk X G a15 l15 c15 k15 (fun _ _ _ _ _ _ us hl => match us, hl with | [_], _ => rfl),
    def_mk X G a16 l16 c16 k16 (fun _ _ _ _ _ _ us hl => match us, hl with | [_, _], _ => rfl),
    def_mk X G a17 l17 c17 k17 (fun _ _ _ _ _ _ us hl => match us, hl with | [_, _], _ => rfl),
    def_mk X G a18 l18 c18 k18 (fun _ _ _ _ _ _ us hl => match us, hl with | [_, _], _ => rfl),
    def_mk X G a19 l19 c19 k19 (fun _ _ _ _ _ _ us hl => match us, hl with | [_, _, _], _ => rfl),
    def_mk X G a20 l20 c20 k20 (fun _ _ _ _ _ _ us hl => match us, hl with | [_], _ => rfl),
    def_mk X G a21 l21 c21 k21 (fun _ _ _ _ _ _ us hl => match us, hl with | [_], _ => rfl),
    def_mk X G a22 l22 c22 k22 (fun _ _ _ _ _ _ us hl => match us, hl with | [_], _ => rfl),
    def_mk X G a23 l23 c23 k23 (fun _ _ _ _ _ _ us hl => match us, hl with | [_], _ => rfl),
    def_mk X G a24 l24 c24 k24 (fun _ _ _ _ _ _ us hl => match us, hl with | [_], _ => rfl),
    PySem.W.mg_none_of X G z0,
    PySem.W.mg_none_of X G z1,
    PySem.W.mg_none_of X G z2,
    PySem.W.mg_none_of X G z3,
    PySem.W.mg_none_of X G z4,
    PySem.W.mg_none_of X G z5,
    PySem.W.mg_none_of X G z6,
    PySem.W.mg_none_of X G z7,
    PySem.W.mg_none_of X G z8,
    PySem.W.mg_none_of X G z9,
    PySem.W.mg_none_of X G z10,
    const_mk X G y0 ⟨_, rfl⟩,
    (by
      rw [atTop_of eC_InvalidGoal]
      have F := fun_mk (st := sInvalidGoalu_initu) eLk_InvalidGoal eCd_InvalidGoal eKf_InvalidGoal
      exact ⟨fI_InvalidGoal, _, ⟨PySem.W.mg_of X G eC_InvalidGoal, ⟨⟨_, _, _, _, _, _, _, _, _, _, _, _, _, _, _, eX_InvalidGoal, by rfl⟩, eSa_InvalidGoal, eSb_InvalidGoal, eTy_InvalidGoal, eKp_InvalidGoal⟩, ⟨eGa_InvalidGoal, eGg_InvalidGoal, eSb_InvalidGoal, eHd_InvalidGoal⟩, ⟨eGa_InvalidGoal, eGg_InvalidGoal, eSb_InvalidGoal, eHd_InvalidGoal, eCc_InvalidGoal, eSp_InvalidGoal, eTk_InvalidGoal, eMo_InvalidGoal⟩, eIc_InvalidGoal, eNb_InvalidGoal, eIn_InvalidGoal, eTf_InvalidGoal⟩, F, F.binds (ps := ["self", "at"]) fun _ _ _ _ _ _ us hl => match us, hl with | [_, _], _ => rfl⟩),
    ⟨_, PySem.W.mg_of X G eC_InvalidGoal, (by rw [atTop_of eC_InvalidGoal]; rfl)⟩,
    ⟨_, PySem.W.mg_of X G eC_NoSafeLog, (by rw [atTop_of eC_NoSafeLog]; rfl)⟩,
    ⟨_, PySem.W.mg_of X G eC_NoLog, (by rw [atTop_of eC_NoLog]; rfl)⟩,
    ⟨_, PySem.W.mg_of X G eC_TooMany, (by rw [atTop_of eC_TooMany]; rfl)⟩,
    ⟨_, PySem.W.mg_of X G eC_RedoError, (by rw [atTop_of eC_RedoError]; rfl)⟩,
    (by rw [atTop_of eC_InvalidGoal]; exact exm_of eSb_InvalidGoal eIc_InvalidGoal eTy_InvalidGoal eSs_InvalidGoal),
    (by rw [atTop_of eC_InvalidGoal, atTop_of eC_NoSafeLog]; exact kit_refF eIc_NoSafeLog eTy_NoSafeLog eS_InvalidGoal_NoSafeLog eSs_InvalidGoal),
    (by rw [atTop_of eC_InvalidGoal, atTop_of eC_NoLog]; exact kit_refF eIc_NoLog eTy_NoLog eS_InvalidGoal_NoLog eSs_InvalidGoal),
    (by rw [atTop_of eC_InvalidGoal, atTop_of eC_TooMany]; exact kit_refF eIc_TooMany eTy_TooMany eS_InvalidGoal_TooMany eSs_InvalidGoal),
    (by rw [atTop_of eC_InvalidGoal, atTop_of eC_RedoError]; exact kit_refT eIc_RedoError eTy_RedoError eS_InvalidGoal_RedoError),
    (by rw [atTop_of eC_InvalidGoal]; exact kit_refV eS_InvalidGoal_ValueError),
    PySem.W.mg_of X G zm_comb,
    (by rw [atTop_of eC_InvalidGoal]; exact nsG)⟩
  have F := fun_mk (st := slaw) l24 c24 k24
  exact ⟨_, fun s v => .of_eq rfl, fun base _ _ => oklaw T ⟨F, F.binds (ps := ["script"]) fun _ _ _ _ _ _ us hl => match us, hl with | [_], _ => rfl, PySem.W.mg_of X G a24⟩⟩
end K31
open PySem PySem.W PyProof.Rows in
set_option maxRecDepth 100000 in
set_option maxHeartbeats 0 in
theorem PySem.Challenge.cw_redolots_k31_safe_goals_holds : PySem.Challenge.rw_redolots_k31_safe_goals.Holds := by
  w_on; o_law; k_head; (case hw => w_witness2)
  k_fill
  refine L2.walk_ofK (l := PySem.Challenge.rw_redolots_k31_safe_goals) (n := 63) (k := 9) (x := "script") (CX := L2.CX0) (sp := K31.splaw) rfl (by decide) rfl ⟨rfl, by decide, by decide⟩ (fun w h Y => PySem.W.kIn_of Y) ?F (fun K H a ns hl _ hS => ⟨a, ns, rfl, hS, hl, fun _ => rfl⟩) (fun _ _ _ _ z => z)
  case F =>
    intro w mg fa h KX G hmg
    refine' K31.all_mk KX G hmg ?a0 ?l0 ?c0 ?k0 ?a1 ?l1 ?c1 ?k1 ?a2 ?l2 ?c2 ?k2 ?a3 ?l3 ?c3 ?k3 ?a4 ?l4 ?c4 ?k4 ?a5 ?l5 ?c5 ?k5 ?a6 ?l6 ?c6 ?k6 ?a7 ?l7 ?c7 ?k7 ?a8 ?l8 ?c8 ?k8 ?a9 ?l9 ?c9 ?k9 ?a10 ?l10 ?c10 ?k10 ?a11 ?l11 ?c11 ?k11 ?a12 ?l12 ?c12 ?k12 ?a13 ?l13 ?c13 ?k13 ?a14 ?l14 ?c14 ?k14 ?a15 ?l15 ?c15 ?k15 ?a16 ?l16 ?c16 ?k16 ?a17 ?l17 ?c17 ?k17 ?a18 ?l18 ?c18 ?k18 ?a19 ?l19 ?c19 ?k19 ?a20 ?l20 ?c20 ?k20 ?a21 ?l21 ?c21 ?k21 ?a22 ?l22 ?c22 ?k22 ?a23 ?l23 ?c23 ?k23 ?a24 ?l24 ?c24 ?k24 ?z0 ?z1 ?z2 ?z3 ?z4 ?z5 ?z6 ?z7 ?z8 ?z9 ?z10 ?y0 ?eC_InvalidGoal ?eIc_InvalidGoal ?eTy_InvalidGoal ?eSb_InvalidGoal ?eSs_InvalidGoal ?eC_NoSafeLog ?eIc_NoSafeLog ?eTy_NoSafeLog ?eSb_NoSafeLog ?eSs_NoSafeLog ?eC_NoLog ?eIc_NoLog ?eTy_NoLog ?eSb_NoLog ?eSs_NoLog ?eC_TooMany ?eIc_TooMany ?eTy_TooMany ?eSb_TooMany ?eSs_TooMany ?eC_RedoError ?eIc_RedoError ?eTy_RedoError ?eSb_RedoError ?eSs_RedoError ?eX_InvalidGoal ?eSa_InvalidGoal ?eGa_InvalidGoal ?eGg_InvalidGoal ?eNb_InvalidGoal ?eIn_InvalidGoal ?eTf_InvalidGoal ?eLk_InvalidGoal ?eCd_InvalidGoal ?eKf_InvalidGoal ?eKp_InvalidGoal ?eHd_InvalidGoal ?eCc_InvalidGoal ?eSp_InvalidGoal ?eTk_InvalidGoal ?eMo_InvalidGoal ?eS_InvalidGoal_NoSafeLog ?eS_InvalidGoal_NoLog ?eS_InvalidGoal_TooMany ?eS_InvalidGoal_RedoError ?eS_InvalidGoal_ValueError ?zm_comb ?nsG
    (case a0 => k_is)
    (case l0 => k_is)
    (case c0 => k_is)
    (case k0 => k_is)
    (case a1 => k_is)
    (case l1 => k_is)
    (case c1 => k_is)
    (case k1 => k_is)
    (case a2 => k_is)
    (case l2 => k_is)
    (case c2 => k_is)
    (case k2 => k_is)
    (case a3 => k_is)
    (case l3 => k_is)
    (case c3 => k_is)
    (case k3 => k_is)
    (case a4 => k_is)
    (case l4 => k_is)
    (case c4 => k_is)
    (case k4 => k_is)
    (case a5 => k_is)
    (case l5 => k_is)
    (case c5 => k_is)
    (case k5 => k_is)
    (case a6 => k_is)
    (case l6 => k_is)
    (case c6 => k_is)
    (case k6 => k_is)
    (case a7 => k_is)
    (case l7 => k_is)
    (case c7 => k_is)
    (case k7 => k_is)
    (case a8 => k_is)
    (case l8 => k_is)
    (case c8 => k_is)
    (case k8 => k_is)
    (case a9 => k_is)
    (case l9 => k_is)
    (case c9 => k_is)
    (case k9 => k_is)
    (case a10 => k_is)
    (case l10 => k_is)
    (case c10 => k_is)
    (case k10 => k_is)
    (case a11 => k_is)
    (case l11 => k_is)
    (case c11 => k_is)
    (case k11 => k_is)
    (case a12 => k_is)
    (case l12 => k_is)
    (case c12 => k_is)
    (case k12 => k_is)
    (case a13 => k_is)
    (case l13 => k_is)
    (case c13 => k_is)
    (case k13 => k_is)
    (case a14 => k_is)
    (case l14 => k_is)
    (case c14 => k_is)
    (case k14 => k_is)
    (case a15 => k_is)
    (case l15 => k_is)
    (case c15 => k_is)
    (case k15 => k_is)
    (case a16 => k_is)
    (case l16 => k_is)
    (case c16 => k_is)
    (case k16 => k_is)
    (case a17 => k_is)
    (case l17 => k_is)
    (case c17 => k_is)
    (case k17 => k_is)
    (case a18 => k_is)
    (case l18 => k_is)
    (case c18 => k_is)
    (case k18 => k_is)
    (case a19 => k_is)
    (case l19 => k_is)
    (case c19 => k_is)
    (case k19 => k_is)
    (case a20 => k_is)
    (case l20 => k_is)
    (case c20 => k_is)
    (case k20 => k_is)
    (case a21 => k_is)
    (case l21 => k_is)
    (case c21 => k_is)
    (case k21 => k_is)
    (case a22 => k_is)
    (case l22 => k_is)
    (case c22 => k_is)
    (case k22 => k_is)
    (case a23 => k_is)
    (case l23 => k_is)
    (case c23 => k_is)
    (case k23 => k_is)
    (case a24 => k_is)
    (case l24 => k_is)
    (case c24 => k_is)
    (case k24 => k_is)
    (case z0 => k_is)
    (case z1 => k_is)
    (case z2 => k_is)
    (case z3 => k_is)
    (case z4 => k_is)
    (case z5 => k_is)
    (case z6 => k_is)
    (case z7 => k_is)
    (case z8 => k_is)
    (case z9 => k_is)
    (case z10 => k_is)
    (case y0 => k_is)
    (case eC_InvalidGoal => k_is)
    (case eIc_InvalidGoal => k_is)
    (case eTy_InvalidGoal => k_is)
    (case eSb_InvalidGoal => k_is)
    (case eSs_InvalidGoal => k_is)
    (case eC_NoSafeLog => k_is)
    (case eIc_NoSafeLog => k_is)
    (case eTy_NoSafeLog => k_is)
    (case eSb_NoSafeLog => k_is)
    (case eSs_NoSafeLog => k_is)
    (case eC_NoLog => k_is)
    (case eIc_NoLog => k_is)
    (case eTy_NoLog => k_is)
    (case eSb_NoLog => k_is)
    (case eSs_NoLog => k_is)
    (case eC_TooMany => k_is)
    (case eIc_TooMany => k_is)
    (case eTy_TooMany => k_is)
    (case eSb_TooMany => k_is)
    (case eSs_TooMany => k_is)
    (case eC_RedoError => k_is)
    (case eIc_RedoError => k_is)
    (case eTy_RedoError => k_is)
    (case eSb_RedoError => k_is)
    (case eSs_RedoError => k_is)
    (case eX_InvalidGoal => k_is)
    (case eSa_InvalidGoal => k_is)
    (case eGa_InvalidGoal => k_is)
    (case eGg_InvalidGoal => k_is)
    (case eNb_InvalidGoal => k_is)
    (case eIn_InvalidGoal => k_is)
    (case eTf_InvalidGoal => k_is)
    (case eLk_InvalidGoal => k_is)
    (case eCd_InvalidGoal => k_is)
    (case eKf_InvalidGoal => k_is)
    (case eKp_InvalidGoal => k_is)
    (case eHd_InvalidGoal => k_is)
    (case eCc_InvalidGoal => k_is)
    (case eSp_InvalidGoal => k_is)
    (case eTk_InvalidGoal => k_is)
    (case eMo_InvalidGoal => k_is)
    (case eS_InvalidGoal_NoSafeLog => k_is)
    (case eS_InvalidGoal_NoLog => k_is)
    (case eS_InvalidGoal_TooMany => k_is)
    (case eS_InvalidGoal_RedoError => k_is)
    (case eS_InvalidGoal_ValueError => k_is)
    (case zm_comb => k_is)
    (case nsG => k_is)
