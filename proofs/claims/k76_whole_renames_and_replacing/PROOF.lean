import PyProof.Rows.All
import Wide.All
import OpenK.AllK
import Wide.FinOn
import KE.GoesEnum
import HandS.Base
import HandS.Call
import HandS.List
import HandS.Comp
import HandS.Ends
import HandS.Dict
import HandS.Iter
import HandS.Text
import HandS.Words
import HandS.WordsList
import HandS.IsInst
import HandS.Walk
import HandS.Codes
import HandS.Conv
import HandS.FStr
import HandS.Text
import HandS.Codes
import KE.KUnpack
import PyProof.RulesMatch
import PyProof.RulesMatchSeq
import PyProof.Rows.MatchSeqLen
import KE.KExcIs
import HandS.Exc
import HandS.ExcInit
import HandS.ExcField
import HandS.ExcIs
import HandS.ExcOwn
import HandS.TryOnly
import HandS.WordsExc
import HandS.Star
import HandS.Defaults
import HandS.More
import HandS.TryMany
import HandS.CallSlots
import HandS.HotCalls
import HandS.Set
import HandS.Strs
import HandS.SetFor
import HandS.TupLen
import HandS.DictComp
import KE.KDictKeyed
import HandS.SetKeys
import HandS.SetBool
import HandS.TupMul
import HandS.Zip
import HandS.Remove
import KE.DatumOrd
import HandS.DictTup
import HandS.ClsMeth
import KE.KIndexOf
import KE.KDictZip
import HandS.Style
import KE.SortData
import HandS.Deep
import HandS.TupLe
import HandS.Hot
import HandS.ExcCtx
import PySem.Challenge.RW_redolots_k76_whole_renames_and_replacing
set_option Elab.async false
set_option linter.all false
set_option maxRecDepth 100000
set_option maxHeartbeats 4000000
/-! enumerate over a tracked tuple or a text, zip over two texts: walks of our own -/
namespace Rv
open PySem PySem.Spec PyProof.Rows L2

/-- an iterator that stands at it: n turns, turn i hands out what out says, as long as ok holds of the tracked heap -/
structure Feed (P : Program) (w : World) (K : PySem.W.Frag) (it : Addr) (n : Nat) (ok : Hp → Prop) (out : Nat → Option V) (st : Nat → Heap → Prop) : Prop where
  cell : ∀ i h, st i h → ∃ ob, h.get? it = some ob ∧ ∀ v, ob.data ≠ .cell v
  stay : ∀ i h1 h2, st i h1 → (∀ ob, h1.get? it = some ob → h2.get? it = some ob) → st i h2
  feed : ∀ (X : Cx), X.prog = P → X.w = w → X.K = K → X.calm = true → ∀ (pins : List (Addr × Obj)) (σ : L2.St) (H : Hp) (s : Shared), Inv X pins σ H s → ok H → H it = none →
    ∃ (fp : List Addr) (Pv : Nat → Value → Prop) (Sv : Nat → Heap → Prop), Draws X.prog X.w X.A.in1 it fp n Pv Sv ∧ (∀ i h, Sv i h → st i h) ∧ (∀ i, st i s.heap → Sv i s.heap) ∧
      (∀ i u, Pv i u → ∃ x, RelV x u ∧ out i = some x) ∧ ∀ b, b ≠ it → H b = none → b ∉ fp

theorem feed_text {P : Program} {w : World} {K : PySem.W.Frag} (it : Addr) (x : Str) (t : Tok) :
    Feed P w K it x.cps.size (fun _ => True) (fun i => (x.cps[i]?).map fun c => V.str ⟨#[c]⟩) (fun i h => h.IsStrIter it (strIterType x) x t i) where
  cell := fun i h q => by
    obtain ⟨ob, e1, e2, e3⟩ := q
    refine ⟨ob, e1, fun v z => ?_⟩
    rw [e3] at z
    cases z
  stay := fun i h1 h2 q k => by
    obtain ⟨ob, e1, e2⟩ := q
    exact ⟨ob, k ob e1, e2⟩
  feed := fun X hP hw hK hc pins σ H s I _ hn => by
    refine ⟨[it], _, _, Draws.text (A := X.A.in1) (show X.A.in1.handled = none from I.ok.hd hc) it x t, fun _ _ q => q, fun _ q => q, fun i u q => ?_, fun b hb _ hm => hb (by simpa using hm)⟩
    obtain ⟨c, tk, e1, e2⟩ := q
    exact ⟨.str ⟨#[c]⟩, ⟨tk, e2⟩, by rw [e1]; rfl⟩

theorem feed_tup {P : Program} {w : World} {K : PySem.W.Frag} (it a : Addr) (xs : List V) :
    Feed P w K it xs.length (fun H => H a = some (.tup xs)) (fun i => xs[i]?) (fun i h => h.IsTupleIter it a i) where
  cell := fun i h q => by
    obtain ⟨ob, e1, e2, e3⟩ := q
    refine ⟨ob, e1, fun v z => ?_⟩
    rw [e3] at z
    cases z
  stay := fun i h1 h2 q k => by
    obtain ⟨ob, e1, e2⟩ := q
    exact ⟨ob, k ob e1, e2⟩
  feed := fun X hP hw hK hc pins σ H s I hg hn => by
    obtain ⟨its, rv, hT, _⟩ := I.tuple (SqT.of (K := X.K) hg)
    have hl : its.toArray.size = xs.length := by
      rw [List.size_toArray]
      exact rv.length.symm
    have nai : a ≠ it := ne_of_none hg hn
    have D := Draws.tuple (prog := X.prog) (w := X.w) (A := X.A.in1) (show X.A.in1.handled = none from I.ok.hd hc) it a nai its.toArray
    rw [hl] at D
    refine ⟨[it, a], _, _, D, fun _ _ q => q.1, fun _ q => ⟨q, hT⟩, fun i u q => ?_, fun b hb hbn hm => ?_⟩
    · have q2 : its[i]? = some u := by simpa using q
      have hi : i < xs.length := by
        have := (List.getElem?_eq_some_iff.mp q2).1
        rw [rv.length]
        exact this
      obtain ⟨u', e1, r1⟩ := rv.get (List.getElem?_eq_getElem hi)
      rw [q2] at e1
      cases e1
      exact ⟨xs[i], r1, List.getElem?_eq_getElem hi⟩
    · rcases List.mem_cons.mp hm with z | z
      · exact hb z
      · have z2 : b = a := by simpa using z
        rw [z2, hg] at hbn
        cases hbn

/-- index and item in a new pair at each turn -/
def Jen (n : Nat) (ok : Hp → Prop) (out : Nat → Option V) : It :=
  ⟨fun i H => i < n ∧ ok H, fun i H v H' => ∃ T x, v = .ref T ∧ H T = none ∧ H' = upd H T (.tup [.int (i : Nat), x]) ∧ out i = some x, fun i H => i = n ∧ ok H⟩
theorem walk_jen {n : Nat} {ok : Hp → Prop} {out : Nat → Option V} : Walk (Jen n ok out) n ok (YPair (fun i => some (.int (i : Nat))) out) := by
  refine ⟨fun _ _ hi q => ⟨hi, q⟩, fun _ q => ⟨rfl, q⟩, fun i H v H' _ _ y => ?_⟩
  obtain ⟨T, x, a1, a2, a3, a4⟩ := y
  exact ⟨T, .int (i : Nat), x, a1, a2, a3, rfl, a4⟩

theorem turn_jen {P : Program} {w : World} {K : PySem.W.Frag} {elts : List Expr} {kk : Nat} {tp : Pos} {e it : Addr} {n : Nat} {ok : Hp → Prop} {out : Nat → Option V} {st : Nat → Heap → Prop}
    (F : Feed P w K it n ok out st) (hne : e ≠ it) :
    Turn P w K (.Tuple elts kk tp) (Jen n ok out) [e, it] e (fun i h => (∃ old, IsEnum h e it (0 + ((i : Nat) : Int)) old) ∧ st i h) where
  mem := List.mem_cons_self ..
  obj := fun i h q b hb => by
    obtain ⟨⟨old, he⟩, hs⟩ := q
    rcases List.mem_cons.mp hb with z | z
    · subst z
      exact ⟨_, he, fun v y => nomatch y⟩
    · have z2 : b = it := by simpa using z
      subst z2
      exact F.cell i h hs
  keep := fun i h1 h2 q k => by
    obtain ⟨⟨old, he⟩, hs⟩ := q
    exact ⟨⟨old, k e (by simp) _ he⟩, F.stay i h1 h2 hs fun ob => k it (by simp) ob⟩
  item := by
    intro X hP hw hK hc i pins s σ H E I hf q hg
    subst hP hw hK
    obtain ⟨⟨old, he⟩, hs⟩ := q
    have fe := hf e (by simp)
    have fi := hf it (by simp)
    obtain ⟨fp, Pv, Sv, D, back, go, val, off⟩ := F.feed X rfl rfl rfl hc pins σ H s I hg.2 fi.1
    refine wpAny_pyNext_enum_itemC D he (go i hs) hg.1 hne (off e hne fe.1) fun u h1 tk hu ho hs1 hT hsz hk => ?_
    obtain ⟨x, rx, ox⟩ := val i u hu
    refine ⟨_, rfl, wpAny_letOwnedTupleGo_enum (s := { s with heap := h1, toks := tk + 1 }) ho fun h2 he2 sb => ?_⟩
    have hel : e < s.heap.objs.size := Heap.lt_size he
    obtain ⟨oi, eoi, _⟩ := F.cell i s.heap hs
    have hil : it < s.heap.objs.size := Heap.lt_size eoi
    have hT2 : h2.get? s.heap.objs.size = some { cls := .type "tuple", data := .seq #[.int (0 + (i : Int)) tk, u] } := (sb.2 _ (Nat.ne_of_gt hel)).trans hT
    have kept : ∀ b ob, b ∉ [e, it] → s.heap.get? b = some ob → h2.get? b = some ob := fun b ob hb z => by
      have n1 : b ≠ e := fun y => hb (by rw [y]; simp)
      have n2 : b ≠ it := fun y => hb (by rw [y]; simp)
      exact (sb.2 b n1).trans (hk b ob n1 n2 z)
    have z0 : (0 + (i : Int)) = ((i : Nat) : Int) := by omega
    have fresh : ObjOk X.prog X.w (upd H s.heap.objs.size (.tup [.int (i : Nat), x])) h2 s.heap.objs.size (.tup [.int (i : Nat), x]) :=
      ⟨Nat.le_trans (show 2 ≤ 3 by decide) (by decide), [.int (0 + (i : Int)) tk, u], .cons ⟨tk, by rw [z0]⟩ (.cons rx .nil), ⟨_, hT2, rfl, _, rfl⟩⟩
    have I2 : Inv X pins σ (upd H s.heap.objs.size (.tup [.int (i : Nat), x])) { s with heap := h2, toks := tk + 1 } :=
      I.turnedNew (ch := [e, it]) kept hf (Nat.le_refl _) fresh
    refine ⟨.ref s.heap.objs.size, _, I2, rfl, ⟨_, x, rfl, I.hok.fresh (Nat.le_refl _), rfl, ox⟩, ⟨⟨u, ?_⟩, F.stay (i + 1) h1 h2 (back _ _ hs1) fun ob y => (sb.2 it hne.symm).trans y⟩, fun b hb => ?_⟩
    · have z1 : (0 + ((i + 1 : Nat) : Int)) = 0 + (i : Int) + 1 := by omega
      rw [z1]
      exact he2
    · have hb2 : b < s.heap.objs.size := by
        rcases List.mem_cons.mp hb with z | z
        · rw [z]; exact hel
        · rw [show b = it by simpa using z]; exact hil
      rw [upd_ne (Nat.ne_of_lt hb2)]
      exact (hf b hb).1
  done := by
    intro X hP hw hK hc i pins s σ H E I hf q hg
    subst hP hw hK
    obtain ⟨⟨old, he⟩, hs⟩ := q
    obtain ⟨rfl, hok⟩ := hg
    obtain ⟨f0, f1, f2, f3, f4, f5⟩ := hf it (by simp)
    obtain ⟨fp, Pv, Sv, D, back, go, val, off⟩ := F.feed X rfl rfl rfl hc pins σ H s I hok f0
    exact wpAny_pyNext_enum_endD D he (go _ hs) fun h1 eb => ⟨rfl, I.turned (t' := s.toks) (fun b ob hb y => eb b ob hb y) f0 f1 f3 f4 f5⟩
  self := fun A i s Q E q h => by
    obtain ⟨⟨old, he⟩, _⟩ := q
    exact wpAny_pyIter_enum he h

theorem en1 {v : Value} {o : Obj} {G : Heap → Prop} (B : Begins v o G) :
    Meets (Builtin.«enumerate.__new__» ⟨[.type "enumerate", v], []⟩) (fun _ R s => G s.heap ∧
      R (.ok (.ret (.ref (s.heap.push o).objs.size)))
        { s with heap := (s.heap.push o).push { cls := .type "enumerate", data := .fields #[.none, .bool false, .ref s.heap.objs.size, rawInt 0, .none, .none] } }) :=
  .of_wp fun prog w A R s h => by
    obtain ⟨hp, g, d, tk, os⟩ := s
    obtain ⟨h1, h⟩ := h
    have hsub := sub_enumerate
    have begun : ∀ {A' : Around} {E : Value → Shared → Prop} {Q : Value → Shared → Prop}, Q (.ref hp.objs.size) ⟨hp.push o, g, d, tk, os⟩ → wpAny (model prog w) A' (pyIter v) Q E ⟨hp, g, d, tk, os⟩ :=
      fun q => B.iter prog w _ _ ⟨hp, g, d, tk, os⟩ _ h1 q
    wp_walk using begun
    refine wpAny_stack_any fun stk => wpAny_pure ?_
    split
    · rename_i c _ _ _ _ _
      cases (c == Value.type "enumerate")
      all_goals (wp_walk using begun; exact ⟨_, rfl, h⟩)
    · wp_walk using begun
      exact ⟨_, rfl, h⟩
theorem enum1 {prog : Program} {w : World} {A : Around} {E : Value → Shared → Prop} {s : Shared} {v : Value} {o : Obj} {G : Heap → Prop} {Q : Value → Shared → Prop} (B : Begins v o G) (h1 : G s.heap)
    (h : ∀ h', IsEnum h' (s.heap.objs.size + 1) s.heap.objs.size 0 .none → h'.get? s.heap.objs.size = some o → (∀ b u, s.heap.get? b = some u → h'.get? b = some u) → Q (.ref (s.heap.objs.size + 1)) { s with heap := h' }) :
    wpAny (model prog w) A (call (.type "enumerate") [v]) Q E s := by
  refine callType_new F.called_enumerate (by decide) (F.typeCall_enumerate_1 _) (F.newCall_enumerate_1 _) (fun ob => F.args_object_init_2 ob _) F.entry_enumerate_new (en1 B) ⟨h1, ?_⟩
  have sz : (s.heap.push o).objs.size = s.heap.objs.size + 1 := Heap.size_push ..
  have here := Heap.get?_push_size (s.heap.push o) (o := { cls := .type "enumerate", data := .fields #[.none, .bool false, .ref s.heap.objs.size, rawInt 0, .none, .none] }) rfl
  rw [sz] at here
  show _ ∧ _
  rw [sz]
  exact ⟨⟨_, here, rfl⟩, h _ here (Heap.get?_push_of_some _ (Heap.get?_push_size _ B.free)) fun b u y => Heap.get?_push_of_some _ (Heap.get?_push_of_some _ y)⟩

def iEnT (ta : TA) : TI := fun σ H R => ta σ H fun vs H1 => ∃ a xs, vs = [.ref a] ∧ H1 a = some (.tup xs) ∧ R (Jen xs.length (fun H => H a = some (.tup xs)) (fun i => xs[i]?)) H1
theorem pi_enT {X : Cx} {e : Expr} {ta : TA} {p pos tpos : Pos} {elts : List Expr} {kk : Nat} (hg : Gl X "enumerate") (hm : X.mg "enumerate" = none) (ha : PA X [e] ta) (hs : starEach [e] X.env = [(false, eval e X.env)] := by rfl) :
    PI X (.Tuple elts kk tpos) (.Call (.Name "enumerate" p) [e] [] pos) (iEnT ta) := by
  refine ⟨fun pins s σ H R I h => Call_ (ld_blt I hg hm boot_enumerate (PyProof.Rows.callWith_type1 (thn (ha.run pos pins s σ H _ I h) fun us s1 q0 => ?_) hs rfl))⟩
  obtain ⟨vs, H1, I1, r1, a, xs, rfl, hT, q⟩ := q0
  cases r1 with
  | cons r rr =>
    cases rr
    cases r
    obtain ⟨its, rv, hI, _⟩ := I1.tuple (SqT.of (K := X.K) hT)
    refine enum1 (begins_tuple a its.toArray) hI fun h' he ho hk => wpAny_pyIter_enum he ?_
    have I2 : Inv X pins σ H1 { s1 with heap := h' } := I1.kept (t' := s1.toks) hk
    refine ⟨s1.heap.objs.size + 1, [s1.heap.objs.size + 1, s1.heap.objs.size], _, _, H1, rfl, I2, turn_jen (feed_tup s1.heap.objs.size a xs) (Nat.succ_ne_self _), ⟨⟨.none, he⟩, ⟨_, ho, rfl, rfl⟩⟩, fun b hb => ?_, q⟩
    have le : s1.heap.objs.size ≤ b := by
      rcases List.mem_cons.mp hb with z | z
      · rw [z]; exact Nat.le_succ _
      · rw [show b = s1.heap.objs.size by simpa using z]; exact Nat.le_refl _
    exact I1.fpOk le (I1.hok.fresh le)
def iEnS (ta : TA) : TI := fun σ H R => ta σ H fun vs H1 => ∃ x, vs = [.str x] ∧ R (Jen x.cps.size (fun _ => True) (fun i => (x.cps[i]?).map fun c => V.str ⟨#[c]⟩)) H1
theorem pi_enS {X : Cx} {e : Expr} {ta : TA} {p pos tpos : Pos} {elts : List Expr} {kk : Nat} (hg : Gl X "enumerate") (hm : X.mg "enumerate" = none) (ha : PA X [e] ta) (hs : starEach [e] X.env = [(false, eval e X.env)] := by rfl) :
    PI X (.Tuple elts kk tpos) (.Call (.Name "enumerate" p) [e] [] pos) (iEnS ta) := by
  refine ⟨fun pins s σ H R I h => Call_ (ld_blt I hg hm boot_enumerate (PyProof.Rows.callWith_type1 (thn (ha.run pos pins s σ H _ I h) fun us s1 q0 => ?_) hs rfl))⟩
  obtain ⟨vs, H1, I1, r1, x, rfl, q⟩ := q0
  cases r1 with
  | cons r rr =>
    cases rr
    obtain ⟨t, rfl⟩ := r
    refine enum1 (begins_text x t) trivial fun h' he ho hk => wpAny_pyIter_enum he ?_
    have I2 : Inv X pins σ H1 { s1 with heap := h' } := I1.kept (t' := s1.toks) hk
    refine ⟨s1.heap.objs.size + 1, [s1.heap.objs.size + 1, s1.heap.objs.size], _, _, H1, rfl, I2, turn_jen (feed_text s1.heap.objs.size x t) (Nat.succ_ne_self _), ⟨⟨.none, he⟩, ⟨_, ho, rfl, rfl⟩⟩, fun b hb => ?_, q⟩
    have le : s1.heap.objs.size ≤ b := by
      rcases List.mem_cons.mp hb with z | z
      · rw [z]; exact Nat.le_succ _
      · rw [show b = s1.heap.objs.size by simpa using z]; exact Nat.le_refl _
    exact I1.fpOk le (I1.hok.fresh le)

/-! zip of two texts -/
def sgn (x : Str) (i : Nat) : Option V := (x.cps[i]?).map fun c => V.str ⟨#[c]⟩
def Jzp (x y : Str) : It :=
  ⟨fun i _ => i < min x.cps.size y.cps.size, fun i H v H' => ∃ T a b, v = .ref T ∧ H T = none ∧ H' = upd H T (.tup [a, b]) ∧ sgn x i = some a ∧ sgn y i = some b, fun i _ => i = min x.cps.size y.cps.size⟩
theorem walk_jzp {x y : Str} : Walk (Jzp x y) (min x.cps.size y.cps.size) (fun _ => True) (YPair (sgn x) (sgn y)) :=
  ⟨fun _ _ hi _ => hi, fun _ _ => rfl, fun _ _ _ _ _ _ q => q⟩
theorem turn_jzp {P : Program} {w : World} {K : PySem.W.Frag} {elts : List Expr} {kk : Nat} {tp : Pos} {z TI TO i1 i2 : Addr} {x y : Str} {t1 t2 : Tok} (S : ZipSep2 z TI TO i1 i2 [i1] [i2]) :
    Turn P w K (.Tuple elts kk tp) (Jzp x y) [z, TI, TO, i1, i2] z (fun i h => IsZip h z TI TO .none ∧ IsTupOf2 h TI (.ref i1) (.ref i2) ∧ (∃ a b, IsTupOf2 h TO a b) ∧ h.IsStrIter i1 (strIterType x) x t1 i ∧ h.IsStrIter i2 (strIterType y) y t2 i) where
  mem := List.mem_cons_self ..
  obj := fun i h q c hc => by
    obtain ⟨hz, hTI, ⟨a, b, hTO⟩, ⟨o1, e1, _, d1⟩, ⟨o2, e2, _, d2⟩⟩ := q
    have cs : c = z ∨ c = TI ∨ c = TO ∨ c = i1 ∨ c = i2 := by simpa using hc
    rcases cs with k | k | k | k | k
    · subst k; exact ⟨_, hz, fun v n => nomatch n⟩
    · subst k; exact ⟨_, hTI, fun v n => nomatch n⟩
    · subst k; exact ⟨_, hTO, fun v n => nomatch n⟩
    · subst k; exact ⟨o1, e1, fun v n => by rw [d1] at n; cases n⟩
    · subst k; exact ⟨o2, e2, fun v n => by rw [d2] at n; cases n⟩
  keep := fun i h1 h2 q k => by
    obtain ⟨hz, hTI, ⟨a, b, hTO⟩, ⟨o1, e1, r1⟩, ⟨o2, e2, r2⟩⟩ := q
    exact ⟨k z (by simp) _ hz, k TI (by simp) _ hTI, ⟨a, b, k TO (by simp) _ hTO⟩, ⟨o1, k i1 (by simp) _ e1, r1⟩, ⟨o2, k i2 (by simp) _ e2, r2⟩⟩
  item := by
    intro X hP hw hK hc i pins s σ H E I hf q hg
    subst hP hw hK
    have hg : i < min x.cps.size y.cps.size := hg
    obtain ⟨hz, hTI, ⟨a, b, hTO⟩, s1, s2⟩ := q
    have hh : X.A.in1.handled = none := I.ok.hd hc
    have D1 := Draws.text (prog := X.prog) (w := X.w) hh i1 x t1
    have D2 := Draws.text (prog := X.prog) (w := X.w) hh i2 y t2
    refine wpAny_pyNext_zipD2_item S D1 D2 hz hTI hTO s1 s2 (by omega) (by omega) fun u1 u2 h1 tk hu1 hu2 hz1 hTO1 n1 n2 hT hsz hk => ?_
    obtain ⟨c1, k1, ec1, rfl⟩ := hu1
    obtain ⟨c2, k2, ec2, rfl⟩ := hu2
    refine ⟨_, rfl, wpAny_letOwnedTupleGo_zip (s := { s with heap := h1, toks := tk }) hz1 fun h2 hz2 sb => ?_⟩
    have hzl : z < s.heap.objs.size := Heap.lt_size hz
    have hT2 : h2.get? s.heap.objs.size = some { cls := .type "tuple", data := .seq #[.str ⟨#[c1]⟩ k1, .str ⟨#[c2]⟩ k2] } := (sb.2 _ (Nat.ne_of_gt hzl)).trans hT
    have fresh : ObjOk X.prog X.w (upd H s.heap.objs.size (.tup [.str ⟨#[c1]⟩, .str ⟨#[c2]⟩])) h2 s.heap.objs.size (.tup [.str ⟨#[c1]⟩, .str ⟨#[c2]⟩]) :=
      ⟨Nat.le_trans (show 2 ≤ 3 by decide) (by decide), [.str ⟨#[c1]⟩ k1, .str ⟨#[c2]⟩ k2], .cons ⟨k1, rfl⟩ (.cons ⟨k2, rfl⟩ .nil), ⟨_, hT2, rfl, _, rfl⟩⟩
    have kept : ∀ c ob, c ∉ [z, TI, TO, i1, i2] → s.heap.get? c = some ob → h2.get? c = some ob := fun c ob hb q => by
      have m1 : c ≠ z := fun k => hb (by rw [k]; simp)
      have m2 : c ≠ TO := fun k => hb (by rw [k]; simp)
      have m3 : c ≠ i1 := fun k => hb (by rw [k]; simp)
      have m4 : c ≠ i2 := fun k => hb (by rw [k]; simp)
      exact (sb.2 c m1).trans (hk c ob m1 m2 m3 m4 q)
    have I2 : Inv X pins σ (upd H s.heap.objs.size (.tup [.str ⟨#[c1]⟩, .str ⟨#[c2]⟩])) { s with heap := h2, toks := tk } :=
      I.turnedNew (ch := [z, TI, TO, i1, i2]) kept hf (Nat.le_refl _) fresh
    refine ⟨.ref s.heap.objs.size, _, I2, rfl, ⟨_, _, _, rfl, I.hok.fresh (Nat.le_refl _), rfl, by unfold sgn; rw [ec1]; rfl, by unfold sgn; rw [ec2]; rfl⟩, ⟨hz2, ?_, ⟨_, _, (sb.2 _ S.TOz).trans hTO1⟩, ?_, ?_⟩, fun c hcm => ?_⟩
    · exact (sb.2 _ S.TIz).trans (hk _ _ S.TIz S.TITO S.TIi1 S.TIi2 hTI)
    · obtain ⟨o1, e1, r1⟩ := n1
      exact ⟨o1, (sb.2 _ S.zi1.symm).trans e1, r1⟩
    · obtain ⟨o2, e2, r2⟩ := n2
      exact ⟨o2, (sb.2 _ S.zi2.symm).trans e2, r2⟩
    · have lt : c < s.heap.objs.size := by
        obtain ⟨o1, e1, _⟩ := s1
        obtain ⟨o2, e2, _⟩ := s2
        have cs : c = z ∨ c = TI ∨ c = TO ∨ c = i1 ∨ c = i2 := by simpa using hcm
        rcases cs with k | k | k | k | k
        · rw [k]; exact hzl
        · rw [k]; exact Heap.lt_size hTI
        · rw [k]; exact Heap.lt_size hTO
        · rw [k]; exact Heap.lt_size e1
        · rw [k]; exact Heap.lt_size e2
      rw [upd_ne (Nat.ne_of_lt lt)]
      exact (hf c hcm).1
  done := by
    intro X hP hw hK hc i pins s σ H E I hf q hg
    subst hP hw hK
    have hg : i = min x.cps.size y.cps.size := hg
    obtain ⟨hz, hTI, ⟨a, b, hTO⟩, s1, s2⟩ := q
    have hh : X.A.in1.handled = none := I.ok.hd hc
    have D1 := Draws.text (prog := X.prog) (w := X.w) hh i1 x t1
    have D2 := Draws.text (prog := X.prog) (w := X.w) hh i2 y t2
    refine wpAny_pyNext_zipD2_end S D1 D2 hz hTI hTO s1 s2 (by omega) (by omega) (by omega) fun h1 tk hk => ⟨rfl, I.turnedL (ch := [z, TI, TO, i1, i2]) (fun c ob hb q => ?_) hf⟩
    exact hk c ob (fun k => hb (by rw [k]; simp)) (fun k => hb (by rw [k]; simp)) (fun k => hb (by rw [k]; simp)) (fun k => hb (by rw [k]; simp)) q
  self := fun A i s Q E q h => wpAny_pyIter_zip q.1 h
def iZpS (ta : TA) : TI := fun σ H R => ta σ H fun vs H1 => ∃ x y, vs = [.str x, .str y] ∧ R (Jzp x y) H1
theorem pi_zpS {X : Cx} {e e2 : Expr} {ta : TA} {p pos tpos : Pos} {elts : List Expr} {kk : Nat} (hg : Gl X "zip") (hm : X.mg "zip" = none) (ha : PA X [e, e2] ta)
    (hs : starEach [e, e2] X.env = (false, eval e X.env) :: starEach [e2] X.env := by rfl) (hpl : (backTo pos (starEach [e2] X.env)).any (·.1) = false := by rfl) :
    PI X (.Tuple elts kk tpos) (.Call (.Name "zip" p) [e, e2] [] pos) (iZpS ta) := by
  refine ⟨fun pins s σ H R I h => Call_ (ld_blt I hg hm PyProof.Rows.boot_zip (PyProof.Rows.callWith_type1 (thn (ha.run pos pins s σ H _ I h) fun us s1 q0 => ?_) hs hpl))⟩
  obtain ⟨vs, H1, I1, r1, x, y, rfl, q⟩ := q0
  cases r1 with
  | cons r rr =>
    cases rr with
    | cons r2 rr =>
      cases rr
      obtain ⟨t1, rfl⟩ := r
      obtain ⟨t2, rfl⟩ := r2
      refine zip_begins2 (begins_text x t1) (begins_text y t2) trivial trivial fun h' hz hTI hTO g1 g2 hsz hk => wpAny_pyIter_zip hz ?_
      have I2 : Inv X pins σ H1 { s1 with heap := h' } := I1.kept (t' := s1.toks) hk
      have S := zip_sep2 (N := s1.heap.objs.size) (fp1 := []) (fp2 := []) (fun _ k => nomatch k) (fun _ k => nomatch k)
      refine ⟨s1.heap.objs.size + 4, [s1.heap.objs.size + 4, s1.heap.objs.size + 2, s1.heap.objs.size + 3, s1.heap.objs.size, s1.heap.objs.size + 1], _, _, H1, rfl, I2, turn_jzp S, ⟨hz, hTI, ⟨_, _, hTO⟩, ⟨_, g1, rfl, rfl⟩, ⟨_, g2, rfl, rfl⟩⟩, fun c hcm => ?_, q⟩
      have le : s1.heap.objs.size ≤ c := by
        have cs : c = s1.heap.objs.size + 4 ∨ c = s1.heap.objs.size + 2 ∨ c = s1.heap.objs.size + 3 ∨ c = s1.heap.objs.size ∨ c = s1.heap.objs.size + 1 := by simpa using hcm
        rcases cs with k | k | k | k | k <;> rw [k] <;> first | exact Nat.le_add_right _ _ | exact Nat.le_refl _
      exact I1.fpOk le (I1.hok.fresh le)
end Rv
/-! steps of a reading, one a piece; heaps; the bag of draws -/
namespace Rv
open PySem PySem.Spec PyProof.Rows L2

theorem pe_k {X : Cx} {x : Str} {v : V} {pos : Pos} (hg : Gl X x) (h : ∃ u, X.mg x = some u ∧ RelV v u) (hd : (x == ("__debug__" : Str)) = false := by decide) : PE X (.Name x pos) (tC v) := by
  obtain ⟨u, hm, r⟩ := h
  exact pe_glob hg hm r hd

/-- a def of the top: where it stands, how its arguments bind -/
structure Def (K : PySem.W.Frag) (mg : Str → Option Value) (x : Str) (st : Stmt) (ps : List Str) (f : Addr) (fd : FuncData) : Prop where
  F : Fun K x x st f fd
  b : Binds K fd ps []
  g : mg x = some (.ref f)
theorem def_mk {K : PySem.W.Frag} {h : Heap} {mg : Str → Option Value} {x : Str} {st : Stmt} {ps : List Str} {f : Addr} {oc : Value} {od an : Option Addr} {osl : Array (Option Value)} {kV doc pm cdv ct : Value} (X : K.In h) (G : h.Ns mainGlobals mg)
    (a : PySem.W.nsIn K mainGlobals x = some (some (.ref f))) (l : K.lookup f = some ⟨oc, od, .func (PySem.W.fnOf x x (defArgs st) (defBody st) (defScope st) .none kV doc pm an cdv ct), osl⟩)
    (c : PySem.W.codeIn K cdv x = true) (k : PySem.W.keepIn K (.ref f) = true)
    (hb : ∀ (kV doc pm : Value) (an : Option Addr) (cdv ct : Value) (us : List Value), us.length = ps.length → bindArgs (PySem.W.fnOf x x (defArgs st) (defBody st) (defScope st) .none kV doc pm an cdv ct) ⟨us, []⟩ = pure (ps.zip us)) : ∃ f fd, Def K mg x st ps f fd := by
  have F := fun_mk (st := st) l c k
  exact ⟨f, _, F, F.binds hb, PySem.W.mg_of X G a⟩
theorem const_mk {K : PySem.W.Frag} {h : Heap} {mg : Str → Option Value} {x : Str} {u : Value} {v : V} (X : K.In h) (G : h.Ns mainGlobals mg) (a : PySem.W.nsIn K mainGlobals x = some (some u)) (r : RelV v u) : ∃ u, mg x = some u ∧ RelV v u := ⟨u, PySem.W.mg_of X G a, r⟩

section
variable {σ : L2.St} {H : Hp} {i : Nat} {v x y : V} {ta tb te : TE} {b : Bool} {K : PySem.W.Frag} {t u c : TT} {Q : VK} {QB : Bool → Hp → Prop} {QA : List V → Hp → Prop} {D : Ends} {s1 s2 : TS} {tr : TA} {r : R2}
theorem rd_var (h : σ[i]? = some (some v)) (q : Q v H) : tVar i σ H Q := ⟨v, h, q⟩
theorem rd_c (q : Q v H) : tC v σ H Q := q
theorem rd_op (q : ta σ H fun x H1 => tb σ H1 fun y H2 => r x y H2 Q) : tOp r ta tb σ H Q := q
theorem rd_un {r : V → Hp → VK → Prop} (q : ta σ H fun x H1 => r x H1 Q) : tUn r ta σ H Q := q
theorem rd_U {g : Int → V} {a : Int} (q : Q (g a) H) : rU g (.int a) H Q := ⟨a, rfl, q⟩
theorem rd_I0 {g : Int → Int → V} {a b : Int} (q : Q (g a b) H) : rI0 g (.int a) (.int b) H Q := ⟨a, b, rfl, rfl, q⟩
theorem rd_I {C : Int → Int → Prop} {g : Int → Int → V} {a b : Int} (hc : C a b) (q : Q (g a b) H) : rI C g (.int a) (.int b) H Q := ⟨a, b, rfl, rfl, hc, q⟩
theorem rd_eq (h : scal x y = true) (q : Q (.bl (decide (x = y))) H) : rEq x y H Q := ⟨h, q⟩
theorem rd_ne (h : scal x y = true) (q : Q (.bl (!decide (x = y))) H) : rNe x y H Q := ⟨h, q⟩
theorem rd_k {P : Bool → Prop} (q : P b) : ∃ k, V.bl b = V.bl k ∧ P k := ⟨b, rfl, q⟩
theorem rd_test (q : te σ H fun x H' => ∃ k, x = .bl k ∧ QB k H') : tTest te σ H QB := q
theorem rd_B (q : te σ H fun x H' => ∃ k, x = .bl k ∧ QB k H') : tB te σ H QB := q
theorem rd_not (q : t σ H fun c H1 => QB (!c) H1) : tNot t σ H QB := q
theorem rd_notV (q : te σ H fun x H1 => ∃ c, x = .bl c ∧ Q (.bl (!c)) H1) : tNotV te σ H Q := q
theorem rd_and (q : t σ H fun c H1 => if c = true then u σ H1 QB else QB false H1) : tAnd t u σ H QB := q
theorem rd_or (q : t σ H fun c H1 => if c = true then QB true H1 else u σ H1 QB) : tOr t u σ H QB := q
theorem rd_andV (q : ta σ H fun x H1 => ∃ c, x = .bl c ∧ if c = true then tb σ H1 Q else Q (.bl false) H1) : tAndV ta tb σ H Q := q
theorem rd_orV (q : ta σ H fun x H1 => ∃ c, x = .bl c ∧ if c = true then Q (.bl true) H1 else tb σ H1 Q) : tOrV ta tb σ H Q := q
theorem rd_if (q : t σ H fun c H1 => if c = true then ta σ H1 Q else tb σ H1 Q) : tIf t ta tb σ H Q := q
theorem rd_chain {r' : R2} {tc : TE} (q : ta σ H fun x H1 => tb σ H1 fun y H2 => r x y H2 fun z H3 => ∃ k, z = .bl k ∧ if k = true then tc σ H3 fun w H4 => r' y w H4 Q else Q (.bl false) H3) : tChain r r' ta tb tc σ H Q := q
theorem rd_seq (q : s1 { D with nx := s2 D } σ H) : tSeq s1 s2 D σ H := q
theorem rd_next (q : D.nx σ H) : tNext D σ H := q
theorem rd_asg {g : TG} (q : te σ H fun x H1 => g x σ H1 D.nx) : tAsg te g D σ H := q
theorem rd_name {R : L2.St → Hp → Prop} (q : R (σ.set i (some v)) H) : gName i v σ H R := q
theorem rd_sub {to ti : TE} {ts : TSet} {R : L2.St → Hp → Prop} (q : to σ H fun o H1 => ti σ H1 fun i H2 => ts o i v H2 fun H3 => R σ H3) : gSub to ti ts v σ H R := q
theorem rd_gcons {g : TG} {gs : TGs} {R : L2.St → Hp → Prop} {vs : List V} (q : g v σ H fun σ' H' => gs vs σ' H' R) : gCons g gs (v :: vs) σ H R := ⟨v, vs, rfl, q⟩
theorem rd_gnil {R : L2.St → Hp → Prop} (q : R σ H) : gNil [] σ H R := ⟨rfl, q⟩
theorem rd_gtup {a : Addr} {xs : List V} {n : Nat} {gs : TGs} {R : L2.St → Hp → Prop} (h : H a = some (.tup xs)) (hn : xs.length = n) (q : gs xs σ H R) : gTup K n gs (.ref a) σ H R := ⟨a, xs, rfl, SqT.of h, hn, q⟩
theorem rd_ret (q : te σ H D.rt) : tRet te D σ H := q
theorem rd_drop (q : te σ H fun _ H1 => D.nx σ H1) : tDrop te D σ H := q
theorem rd_ifS (q : t σ H fun b H1 => if b = true then s1 D σ H1 else s2 D σ H1) : tIfS t s1 s2 D σ H := q
theorem rd_nil (q : QA [] H) : tNil σ H QA := q
theorem rd_cons (q : ta σ H fun x H1 => tr σ H1 fun xs H2 => QA (x :: xs) H2) : tCons ta tr σ H QA := q
theorem rd_CB {r : List V → Hp → VK → Prop} (q : tr σ H fun vs H1 => r vs H1 Q) : tCB r tr σ H Q := q
theorem rd_call {sp : Sp} {E : XK} (q : tr σ H fun vs H1 => sp vs H1 Q E) : tCall sp [] E tr σ H Q := by
  show tr σ H fun vs H1 => sp (vs ++ []) H1 Q E
  have e : (fun vs H1 => sp (vs ++ []) H1 Q E) = fun vs H1 => sp vs H1 Q E := by
    funext vs H1
    rw [List.append_nil]
  rw [e]
  exact q
theorem rd_ixT {p : Addr} {xs : List V} {a : Int} (h : H p = some (.tup xs)) (e : atI xs a = some v) (q : Q v H) : rIxT K (.ref p) (.int a) H Q := ⟨p, xs, a, v, rfl, rfl, SqT.of h, e, q⟩
theorem rd_ixS {z : Str} {a : Int} {c : Nat} (hz : z.length ≤ sizeLine) (e : atI z.cps.toList a = some c) (q : Q (.str ⟨#[c]⟩) H) : rIxS (.str z) (.int a) H Q := ⟨z, a, c, rfl, rfl, hz, e, q⟩
theorem rd_setL {p : Addr} {xs : List V} {a : Int} {j : Nat} {R : Hp → Prop} (h : H p = some (.lst xs)) (e : ixN xs.length a = some j) (q : R (upd H p (.lst (xs.set j v)))) : rSetL (.ref p) (.int a) v H R := ⟨p, xs, a, j, rfl, rfl, h, e, q⟩
end

/-! built-in calls under names of their own -/
def rLenQ (K : PySem.W.Frag) : List V → Hp → VK → Prop := fun xs H Q => ∃ p ys, xs = [.ref p] ∧ (SqL K H p ys ∨ SqT K H p ys) ∧ Q (.int ys.length) H
def rLenZ : List V → Hp → VK → Prop := fun xs H Q => ∃ z, xs = [.str z] ∧ z.length ≤ sizeLine ∧ Q (.int z.length) H
def rIntQ : List V → Hp → VK → Prop := fun xs H Q => ∃ i, xs = [.int i] ∧ Q (.int i) H
def rAbsQ : List V → Hp → VK → Prop := fun xs H Q => ∃ i, xs = [.int i] ∧ Q (.int (if i < 0 then -i else i)) H
def rStrQ : List V → Hp → VK → Prop := fun xs H Q => ∃ i, xs = [.int i] ∧ i.natAbs.log2 < 1920 ∧ Q (.str (toString i)) H
def rTupQ (K : PySem.W.Frag) : List V → Hp → VK → Prop := fun xs H Q => ∃ p ys, xs = [.ref p] ∧ SqL K H p ys ∧ ∀ l, H l = none → Q (.ref l) (upd H l (.tup ys))
def rLstQ (K : PySem.W.Frag) : List V → Hp → VK → Prop := fun xs H Q => ∃ p ys, xs = [.ref p] ∧ (SqL K H p ys ∨ SqT K H p ys) ∧ ∀ l, H l = none → Q (.ref l) (upd H l (.lst ys))
def rMinQ : List V → Hp → VK → Prop := fun xs H Q => ∃ i j, xs = [.int i, .int j] ∧ Q (.int (if j < i then j else i)) H
def rSgnQ : R2 := fun x y H Q => ∃ (c : Nat) (z : Str), x = .str ⟨#[c]⟩ ∧ y = .str z ∧ Q (.bl (decide (c ∈ z.cps.toList))) H
section
variable {X : Cx}
theorem call_lenQ : CallR X (.builtin "len") (rLenQ X.K) := call_len_seq
theorem call_lenZ : CallR X (.builtin "len") rLenZ := call_len_str
theorem call_intQ : CallR X (.type "int") rIntQ := fun pins s σ H xs us Q I r h => call_int1 pins s σ H xs us Q I r (.inl h)
theorem call_absQ : CallR X (.builtin "abs") rAbsQ := call_abs
theorem call_strQ : CallR X (.type "str") rStrQ := call_str_int
theorem call_tupQ : CallR X (.type "tuple") (rTupQ X.K) := fun pins s σ H xs us Q I r h => call_tuple_of pins s σ H xs us Q I r (by
  obtain ⟨p, ys, e, h1, h2⟩ := h
  exact ⟨p, ys, e, .inl ⟨h1, h2⟩⟩)
theorem call_lstQ : CallR X (.type "list") (rLstQ X.K) := call_list_of
theorem call_minQ (hc : X.calm = true) : CallR X (.builtin "min") rMinQ := call_min2 hc
theorem op_sgnQ : OpR X (compareOp .In) rSgnQ := op_in_sign
end
section
variable {H H1 H2 : Hp} {p a : Addr} {xs : List V} {K : PySem.W.Frag} {Q : VK} {o : HO} {A B : Prop} {b : Bool}


theorem rd_ixM {v : V} {i : Int} (h : H p = some (.lst xs)) (e : atI xs i = some v) (q : Q v H) : rIxL K (.ref p) (.int i) H Q := ⟨p, xs, i, v, rfl, rfl, SqL.of h, e, q⟩

theorem rd_lenT (h : H p = some (.tup xs)) (q : Q (.int xs.length) H) : rLenQ K [.ref p] H Q := ⟨p, xs, rfl, .inr (SqT.of h), q⟩
theorem rd_lenL (h : H p = some (.lst xs)) (q : Q (.int xs.length) H) : rLenQ K [.ref p] H Q := ⟨p, xs, rfl, .inl (SqL.of h), q⟩
theorem rd_lenZ {z : Str} (hz : z.length ≤ sizeLine) (q : Q (.int z.length) H) : rLenZ [.str z] H Q := ⟨z, rfl, hz, q⟩
theorem rd_intQ {i : Int} (q : Q (.int i) H) : rIntQ [.int i] H Q := ⟨i, rfl, q⟩
theorem rd_absQ {i : Int} (q : Q (.int (if i < 0 then -i else i)) H) : rAbsQ [.int i] H Q := ⟨i, rfl, q⟩
theorem rd_minQ {i j : Int} (q : Q (.int (if j < i then j else i)) H) : rMinQ [.int i, .int j] H Q := ⟨i, j, rfl, q⟩
theorem rd_strQ {i : Int} (h0 : 0 ≤ i) (h1 : i < 10) (q : Q (.str (toString i)) H) : rStrQ [.int i] H Q := ⟨i, rfl, Nat.lt_of_le_of_lt (Nat.log2_le_self _) (by omega), q⟩
theorem rd_tupQ (h : H p = some (.lst xs)) (q : ∀ l, H l = none → Q (.ref l) (upd H l (.tup xs))) : rTupQ K [.ref p] H Q := ⟨p, xs, rfl, SqL.of h, q⟩
theorem rd_sgn {c : Nat} {z : Str} (q : Q (.bl (decide (c ∈ z.cps.toList))) H) : rSgnQ (.str ⟨#[c]⟩) (.str z) H Q := ⟨c, z, rfl, rfl, q⟩
theorem rd_isiT {T : String} (h : H p = some (.tup xs)) (e : kitB "tuple" T = some b) (q : Q (.bl b) H) : rIsi K [.ref p, .ty T] H Q := ⟨_, _, _, _, b, rfl, .ty T, .base (.tup h), kit_ty e, q⟩
theorem rd_isiL {T : String} (h : H p = some (.lst xs)) (e : kitB "list" T = some b) (q : Q (.bl b) H) : rIsi K [.ref p, .ty T] H Q := ⟨_, _, _, _, b, rfl, .ty T, .base (.lst h), kit_ty e, q⟩
theorem rd_isiI {T : String} {i : Int} (e : kitB "int" T = some b) (q : Q (.bl b) H) : rIsi K [.int i, .ty T] H Q := ⟨_, _, _, _, b, rfl, .ty T, .base (.int i), kit_ty e, q⟩
theorem rd_isiB {T : String} {c : Bool} (e : kitB "bool" T = some b) (q : Q (.bl b) H) : rIsi K [.bl c, .ty T] H Q := ⟨_, _, _, _, b, rfl, .ty T, .base (.bl c), kit_ty e, q⟩
theorem kit_tt : kitB "tuple" "tuple" = some true := by decide +kernel
theorem kit_ll : kitB "list" "list" = some true := by decide +kernel
theorem kit_ii : kitB "int" "int" = some true := by decide +kernel
theorem kit_ib : kitB "int" "bool" = some false := by decide +kernel
theorem kit_bb : kitB "bool" "bool" = some true := by decide +kernel
theorem iteNT (h : B) : if (!true) = true then A else B := h
theorem iteNF (h : A) : if (!false) = true then A else B := h
theorem iteD {c : Prop} [Decidable c] (hc : c) (h : A) : if decide c = true then A else B := by
  rw [decide_eq_true hc]
  exact iteT h
theorem iteE {c : Prop} [Decidable c] (hc : ¬ c) (h : B) : if decide c = true then A else B := by
  rw [decide_eq_false hc]
  exact iteF h
theorem iteN2 {c : Prop} [Decidable c] (hc : ¬ c) (h : A) : if (!decide c) = true then A else B := by
  rw [decide_eq_false hc]
  exact h
theorem back (S : Same H1 H2) (h : H1 p = some o) : H2 p = some o := S _ _ h
theorem sxx {a b : Nat} : (V.str ⟨#[a]⟩ = V.str ⟨#[b]⟩) ↔ a = b :=
  ⟨fun k => by
    have q := congrArg (fun z : Str => z.cps.toList) (V.str.inj k)
    simpa using q, fun k => by rw [k]⟩
end

section
variable {σ : L2.St} {H : Hp} {K : PySem.W.Frag} {Q : VK} {tb te : TE} {D p : Addr} {xs : List V}
theorem rd_yes {QB : Bool → Hp → Prop} (q : QB true H) : tYes σ H QB := q

theorem rd_all {bs : List Bool} (h : H p = some (.lst (bs.map V.bl))) (q : Q (.bl (bs.all id)) H) : rAll K [.ref p] H Q := ⟨p, bs, rfl, SqL.of h, q⟩
theorem rd_M1 {r : V → List V → Hp → VK → Prop} {z : Str} (q : te σ H fun y H2 => r (.str z) [y] H2 Q) : tM1 r (tC (.str z)) te σ H Q := ⟨⟨z, rfl⟩, q⟩



/-- a list's append, the list an own one -/
theorem rd_app {y : V} (h : H p = some (.lst xs)) (hz : xs.length < 1000) (q : Q .non (upd H p (.lst (xs ++ [y])))) : rAppend (.ref p) [y] H Q := ⟨p, xs, y, rfl, rfl, h, small1000 (by omega), q⟩
theorem rd_BMv {t : TA} {i : Nat} {r : V → List V → Hp → VK → Prop} (hv : σ[i]? = some (some (.ref p))) (h : H p = some (.lst xs)) (q : t σ H fun vs H2 => r (.ref p) vs H2 Q) : tBM K "list" r (tVar i) t σ H Q :=
  ⟨.ref p, hv, .inl ⟨rfl, _, SqL.of h⟩, q⟩
end
/-! loops and comprehensions under names of their own -/
def Fr (J : It) (g : TG) (tb : TS) (D : Ends) (σ : L2.St) (H : Hp) : Prop :=
  ∃ W : Nat → Nat → L2.St → Hp → Prop, (∃ m, W 0 m σ H) ∧ ∀ i m σ H, W i m σ H →
    (J.stop i H ∧ D.nx σ H) ∨ (J.go i H ∧ ∃ N : L2.St → Hp → Prop, (∀ σ' H', N σ' H' → ∃ m', m' < m ∧ W (i + 1) m' σ' H') ∧ ∀ x H', J.yld i H x H' → g x σ H' fun σ2 H2 => tb { D with nx := N, ct := N, bk := D.nx } σ2 H2)
def Lc (J : It) (g : TG) (tt : TT) (te : TE) (vs : List Nat) (σ : L2.St) (H0 : Hp) (Q : VK) : Prop :=
  ∀ D, H0 D = none → ∃ W : Nat → Nat → Hp → Prop, (∃ m, W 0 m (upd H0 D (.lst []))) ∧ ∀ i m H, W i m H →
    (J.stop i H ∧ Q (.ref D) H) ∨ (J.go i H ∧ ∃ Nx : Hp → Prop, (∀ H', Nx H' → ∃ m', m' < m ∧ W (i + 1) m' H') ∧ ∀ x H', J.yld i H x H' → g x (wipe σ vs) H' fun σ2 H2 => wipe σ2 vs = wipe σ vs ∧ tt σ2 H2 fun b H3 =>
      if b = true then te σ2 H3 fun y H4 => ∃ acc, H4 D = some (.lst acc) ∧ acc.length < sizeLine ∧ Nx (upd H4 D (.lst (acc ++ [y]))) else Nx H3)
def ItT (K : PySem.W.Frag) (R : It → Hp → Prop) (x : V) (H : Hp) : Prop := ∃ a, x = .ref a ∧ (∃ xs, SqT K H a xs) ∧ R (Itt K a) H
def ItL (K : PySem.W.Frag) (R : It → Hp → Prop) (x : V) (H : Hp) : Prop := ∃ a, x = .ref a ∧ (∃ xs, SqL K H a xs) ∧ R (Itl K a) H
def EnT (R : It → Hp → Prop) (vs : List V) (H : Hp) : Prop := ∃ a xs, vs = [.ref a] ∧ H a = some (.tup xs) ∧ R (Jen xs.length (fun H => H a = some (.tup xs)) (fun i => xs[i]?)) H
def EnS (R : It → Hp → Prop) (vs : List V) (H : Hp) : Prop := ∃ x, vs = [.str x] ∧ R (Jen x.cps.size (fun _ => True) (fun i => (x.cps[i]?).map fun c => V.str ⟨#[c]⟩)) H
def ZpS (R : It → Hp → Prop) (vs : List V) (H : Hp) : Prop := ∃ x y, vs = [.str x, .str y] ∧ R (Jzp x y) H
def Rg1 (R : It → Hp → Prop) (vs : List V) (H : Hp) : Prop := ∃ j : Int, vs = [.int j] ∧ -(2 ^ 62) ≤ j ∧ j < 2 ^ 62 ∧ R (Itr 0 j.toNat) H
section
variable {σ : L2.St} {H : Hp} {K : PySem.W.Frag} {Q : VK} {te : TE} {tr : TA} {p : Addr} {xs : List V} {wi : TI} {g : TG} {tt : TT} {vs : List Nat} {tb : TS} {D : Ends} {R : It → Hp → Prop}
theorem rd_for (q : wi σ H fun J H1 => Fr J g tb D σ H1) : tFor wi g tb D σ H := q
theorem rd_lc (q : wi σ H fun J H1 => Lc J g tt te vs σ H1 Q) : tLc wi g tt te vs σ H Q := q
theorem rd_iTup (q : te σ H fun x H1 => ItT K R x H1) : iTup K te σ H R := q
theorem rd_iList (q : te σ H fun x H1 => ItL K R x H1) : iList K te σ H R := q
theorem rd_iEnT (q : tr σ H fun vs H1 => EnT R vs H1) : iEnT tr σ H R := q
theorem rd_iEnS (q : tr σ H fun vs H1 => EnS R vs H1) : iEnS tr σ H R := q
theorem rd_iZpS (q : tr σ H fun vs H1 => ZpS R vs H1) : iZpS tr σ H R := q
theorem rd_iRg1 (q : tr σ H fun vs H1 => Rg1 R vs H1) : iRng1 tr σ H R := q
theorem rd_ItT (h : H p = some (.tup xs)) (q : R (Itt K p) H) : ItT K R (.ref p) H := ⟨p, rfl, ⟨xs, SqT.of h⟩, q⟩
theorem rd_ItL (h : H p = some (.lst xs)) (q : R (Itl K p) H) : ItL K R (.ref p) H := ⟨p, rfl, ⟨xs, SqL.of h⟩, q⟩
theorem rd_EnT (h : H p = some (.tup xs)) (q : R (Jen xs.length (fun H => H p = some (.tup xs)) (fun i => xs[i]?)) H) : EnT R [.ref p] H := ⟨p, xs, rfl, h, q⟩
theorem rd_EnS {x : Str} (q : R (Jen x.cps.size (fun _ => True) (fun i => (x.cps[i]?).map fun c => V.str ⟨#[c]⟩)) H) : EnS R [.str x] H := ⟨x, rfl, q⟩
theorem rd_ZpS {x y : Str} (q : R (Jzp x y) H) : ZpS R [.str x, .str y] H := ⟨x, y, rfl, q⟩
theorem rd_Rg1 {j : Int} (h : -100000 ≤ j ∧ j ≤ 100000) (q : R (Itr 0 j.toNat) H) : Rg1 R [.int j] H := ⟨j, rfl, by omega, by omega, q⟩
end
theorem fr_it {J : It} {n : Nat} {G : Hp → Prop} {Y : Nat → Hp → V → Hp → Prop} (w : Walk J n G Y) {g : TG} {tb : TS} {D : Ends} {σ : L2.St} {H : Hp} (Pv : Nat → L2.St → Hp → Prop) (h0 : Pv 0 σ H) (hG : ∀ i σ H, i ≤ n → Pv i σ H → G H)
    (hs : ∀ i x σ H H', i < n → Pv i σ H → Y i H x H' → g x σ H' fun σ2 H2 => tb { D with nx := Pv (i + 1), ct := Pv (i + 1), bk := D.nx } σ2 H2) (hd : ∀ σ H, Pv n σ H → D.nx σ H) : Fr J g tb D σ H := for_it w Pv h0 hG hs hd
/-- a comprehension whose items are told beforehand: ys -/
theorem lc_map {J : It} {n : Nat} {G : Hp → Prop} {Y : Nat → Hp → V → Hp → Prop} (w : Walk J n G Y) {g : TG} {tt : TT} {te : TE} {vs : List Nat} {σ : L2.St} {H0 : Hp} {Q : VK} (ys : List V) (hn : ys.length = n) (sm : n ≤ 1000)
    (hG : ∀ H, Same H0 H → G H)
    (hs : ∀ i x H H' (Qc : VK) (R : Hp → Prop), i < n → Same H0 H → Y i H x H' → (∀ y H4, Same H H4 → ys[i]? = some y → Qc y H4) →
      g x (wipe σ vs) H' fun σ2 H2 => wipe σ2 vs = wipe σ vs ∧ tt σ2 H2 fun b H3 => if b = true then te σ2 H3 Qc else R H3)
    (hd : ∀ H D, Same H0 H → H0 D = none → H D = some (.lst ys) → Q (.ref D) H) : Lc J g tt te vs σ H0 Q := fun D nD =>
  lc_it w (Qd := fun H => Q (.ref D) H) (fun i H => Same H0 H ∧ H D = some (.lst (ys.take i))) ⟨fun a o e => by rw [upd_ne (ne_of_none e nD)]; exact e, upd_same⟩ (fun i H _ p => hG H p.1)
    (fun i x H H' hi p y => hs i x H H' _ _ hi p.1 y fun z H4 S ez => by
      refine ⟨ys.take i, S _ _ p.2, small1000 (by rw [List.length_take]; omega), fun a o e => ?_, ?_⟩
      · rw [upd_ne (ne_of_none e nD)]
        exact S _ _ (p.1 _ _ e)
      · rw [upd_same, List.take_add_one, ez]
        rfl)
    (fun H p => hd H D p.1 nD (by rw [p.2, List.take_of_length_le (by omega)]))
theorem fr_rng0 {n : Nat} {g : TG} {tb : TS} {D : Ends} {σ : L2.St} {H : Hp} (Pv : Nat → L2.St → Hp → Prop) (h0 : Pv 0 σ H)
    (hs : ∀ (i : Nat) σ H, i < n → Pv i σ H → g (.int (i : Int)) σ H fun σ2 H2 => tb { D with nx := Pv (i + 1), ct := Pv (i + 1), bk := D.nx } σ2 H2) (hd : ∀ σ H, Pv n σ H → D.nx σ H) : Fr (Itr 0 n) g tb D σ H :=
  for_range Pv h0 (fun i σ H hi p => by
    have q := hs i σ H hi p
    rw [← Int.zero_add (i : Int)] at q
    exact q) hd
theorem rd_sl {r : V → Option Int → Option Int → Hp → VK → Prop} {te : TE} {tl th : TO} {σ : L2.St} {H : Hp} {Q : VK} (q : te σ H fun x H1 => tl σ H1 fun l H2 => th σ H2 fun u H3 => r x l u H3 Q) : tSl r te tl th σ H Q := q
theorem rd_noP {σ : L2.St} {H : Hp} {QO : Option Int → Hp → Prop} (q : QO none H) : tNoPart σ H QO := q
theorem rd_part {t : TE} {σ : L2.St} {H : Hp} {QO : Option Int → Hp → Prop} (q : t σ H fun x H1 => ∃ i, x = .int i ∧ QO (some i) H1) : tPart t σ H QO := q
theorem rd_i {i : Int} {P : Int → Prop} (q : P i) : ∃ k, V.int i = V.int k ∧ P k := ⟨i, rfl, q⟩
theorem rd_slL {K : PySem.W.Frag} {p : Addr} {xs : List V} {lo hi : Option Int} {H : Hp} {Q : VK} (h : SqL K H p xs) (q : ∀ l, H l = none → Q (.ref l) (upd H l (.lst (cutV xs lo hi)))) : rSlL K (.ref p) lo hi H Q := ⟨p, xs, rfl, h, q⟩
/-- a comprehension over a range -/
theorem walk_rng {n : Nat} : Walk (Itr 0 n) n (fun _ => True) (fun i H x H' => H' = H ∧ x = .int (i : Nat)) :=
  (walk_range (lo := 0)).mono (fun _ _ => trivial) fun i H x H' _ _ y => ⟨y.1, by rw [y.2]; show V.int (0 + (i : Int)) = _; rw [Int.zero_add]⟩
theorem new_gen {H : Hp} {p : Addr} (o : HO) (np : H p = none) : ∃ H', H' = upd H p o ∧ Same H H' ∧ H' p = some o := ⟨_, rfl, fun a u e => by rw [upd_ne (ne_of_none e np)]; exact e, upd_same⟩
theorem same_new {H0 H : Hp} {p : Addr} {o : HO} (S : Same H0 H) (np : H p = none) : Same H0 (upd H p o) := fun a u e => by
  have e2 := S a u e
  rw [upd_ne (ne_of_none e2 np)]
  exact e2
theorem same_mut {H0 H : Hp} {p : Addr} {o : HO} (S : Same H0 H) (np : H0 p = none) : Same H0 (upd H p o) := fun a u e => by
  rw [upd_ne (ne_of_none e np)]
  exact S a u e
theorem atI_int {α : Type} {xs : List α} {a : Int} (h0 : 0 ≤ a) (h1 : a < xs.length) : ∃ v, atI xs a = some v ∧ xs[a.toNat]? = some v ∧ v ∈ xs := by
  have hj : a.toNat < xs.length := by omega
  refine ⟨xs[a.toNat], ?_, List.getElem?_eq_getElem hj, List.getElem_mem hj⟩
  have e : a = ((a.toNat : Nat) : Int) := by omega
  have q := atI_nat (xs := xs) (j := a.toNat) (List.getElem?_eq_getElem hj)
  rw [← e] at q
  exact q
theorem ixN_of {n : Nat} {a : Int} {j : Nat} (e : a = (j : Int)) (h : j < n) : ixN n a = some j := by
  subst e
  unfold ixN
  rw [if_pos (by omega), if_pos (by omega), Int.toNat_natCast]

theorem fmod_in {a m : Int} (h : 0 < m) : 0 ≤ a.fmod m ∧ a.fmod m < m := by
  rw [Int.fmod_eq_emod_of_nonneg _ (by omega)]
  exact ⟨Int.emod_nonneg _ (by omega), Int.emod_lt_of_pos _ h⟩
/-! the bag of draws: at c the script's cells, at b [cells, place, buffer, seed, count] -/
section
variable {c b p a : Addr} {ns : List Int} {H0 H H1 H2 : Hp} {o : HO} {xs : List V}
end
/-! a list of ints against the empty list -/
theorem dp_ints {K : PySem.W.Frag} {H : Hp} : ∀ fs : List Int, DpAll K H (fs.map V.int) (fs.map PyData.int)
  | [] => .nil
  | x :: r => .cons (.int x) (dp_ints r)
theorem lay_ints : ∀ fs : List Int, PyData.canLayAll0 (fs.map PyData.int) = true ∧ PyData.depthAll (fs.map PyData.int) = 0
  | [] => ⟨rfl, rfl⟩
  | x :: r => by
    obtain ⟨h1, h2⟩ := lay_ints r
    constructor
    · show (PyData.canLay0 (.int x) && PyData.canLayAll0 (r.map PyData.int)) = true
      rw [h1]
      rfl
    · show max (PyData.depth (.int x)) (PyData.depthAll (r.map PyData.int)) = 0
      rw [h2]
      rfl
/-! further walks -/
def ItS (R : It → Hp → Prop) (v : V) (H : Hp) : Prop := ∃ x, v = .str x ∧ R (Its x) H
section
variable {σ : L2.St} {H : Hp} {K : PySem.W.Frag} {Q : VK} {te : TE} {tr : TA} {p p2 : Addr} {xs ys : List V} {R : It → Hp → Prop}
theorem rd_iStr (q : te σ H fun v H1 => ItS R v H1) : iStr te σ H R := q
theorem rd_ItS {x : Str} (q : R (Its x) H) : ItS R (.str x) H := ⟨x, rfl, q⟩
theorem rd_rep {k : Int} (h : H p = some (.lst xs)) (k0 : 0 ≤ k) (k1 : k ≤ 1000) (hl : xs.length ≤ 10) (q : ∀ l, H l = none → Q (.ref l) (upd H l (.lst (List.replicate k.toNat xs).flatten))) : rRep (.ref p) (.int k) H Q := by
  refine ⟨p, k, xs, rfl, rfl, h, by omega, by omega, ?_, q⟩
  have e1 : xs.length * k.toNat ≤ 10 * 1000 := Nat.mul_le_mul hl (by omega)
  exact Nat.le_trans e1 (by decide)
end
end Rv
/-! the mathematics of lines over looks -/
namespace Rv
open PySem PySem.Spec PyProof.Rows L2
/-- the code of a block's sign -/
def sg (e : Int) : Nat := if e = -1 then 46 else 48 + (e.fdiv 100).toNat
def one (c : Nat) : Str := ⟨#[c]⟩
def txt (cs : List Nat) : Str := ⟨cs.toArray⟩
def codes (es : List Int) : List Nat := es.map sg
def Img (es : List Int) : Prop := 1 ≤ es.length ∧ es.length ≤ 12 ∧ ∀ e ∈ es, -1 ≤ e ∧ e ≤ 999
theorem txt_len (cs : List Nat) : (txt cs).length = cs.length := by simp [txt, Str.length]
theorem txt_cps (cs : List Nat) : (txt cs).cps.toList = cs := rfl
theorem txt_inj {a b : List Nat} (h : txt a = txt b) : a = b := by
  have q := congrArg (fun z : Str => z.cps.toList) h
  exact q
theorem sgn_inj {a b : Nat} (h : one a = one b) : a = b := by
  have q := congrArg (fun z : Str => z.cps.toList) h
  simpa [one] using q
theorem digit_txt : ∀ k : Nat, k < 10 → (Str.ofString (toString (k : Int))) = one (48 + k) := by decide +kernel
theorem digit_txtI {i : Int} (h0 : 0 ≤ i) (h1 : i < 10) : Str.ofString (toString i) = one (48 + i.toNat) := by
  obtain ⟨k, rfl⟩ : ∃ k : Nat, i = (k : Int) := ⟨i.toNat, by omega⟩
  exact digit_txt k (by omega)
theorem kind_small {e : Int} (h0 : 0 ≤ e) (h1 : e ≤ 999) : 0 ≤ e.fdiv 100 ∧ e.fdiv 100 < 10 := by
  rw [Int.fdiv_eq_ediv_of_nonneg _ (by decide)]
  omega
theorem join_sg (cs : List Nat) : Txt.join (Str.ofString "") (cs.map one) = txt cs := by
  rw [TL.join_eq]
  refine TL.ext_tl ?_
  rw [TL.tl_join]
  have go : ∀ cs : List Nat, TL.joinL (TL.tl (Str.ofString "")) ((cs.map one).map TL.tl) = cs := fun cs => by
    induction cs with
    | nil => rfl
    | cons x r ih =>
      cases r with
      | nil => rfl
      | cons y r => 
        show TL.tl (one x) ++ (TL.tl (Str.ofString "") ++ TL.joinL (TL.tl (Str.ofString "")) (((y :: r).map one).map TL.tl)) = x :: y :: r
        rw [ih]
        rfl
  exact go cs
theorem ones_sum (cs : List Nat) : ((cs.map one).map (·.length)).sum = cs.length := by
  induction cs with
  | nil => rfl
  | cons x r ih =>
    simp only [List.map_cons, List.sum_cons, List.length_cons, ih]
    show 1 + r.length = r.length + 1
    omega
/-- does a guard's sign fit -/
def fitC (s v : Nat) : Bool := if s = 45 then true else if s = 42 then !decide (v = 46) else decide (s = v)
def fitsL (gs vs : List Nat) : Bool := ((gs.zip vs).map fun p => fitC p.1 p.2).all id
def Sign (c : Nat) : Prop := c = 46 ∨ c = 42 ∨ c = 45 ∨ (48 ≤ c ∧ c ≤ 57)
/-- a row's words -/
def sCopy : Str := Str.ofString "copy"
def sMove : Str := Str.ofString "move"
def sClear : Str := Str.ofString "clear"
structure Ln where
  w : Str
  t : Int
  o : Int
  g : List Nat
def Ln.vals (r : Ln) : List V := [.str r.w, .int r.t, .int r.o, .str (txt r.g)]
structure LnOk (n : Nat) (r : Ln) : Prop where
  t0 : 0 ≤ r.t
  t1 : r.t < n
  word : (r.w = sClear ∧ r.o = -1) ∨ ((r.w = sCopy ∨ r.w = sMove) ∧ 0 ≤ r.o ∧ r.o < n ∧ r.o ≠ r.t)
  gl : r.g = [] ∨ r.g.length = n
  gs : ∀ c ∈ r.g, Sign c
def fullAt (vs : List Nat) (o : Int) : Bool := !decide (vs.getD o.toNat 0 = 46)
def worksL (r : Ln) (vs : List Nat) : Bool := fitsL r.g vs && (decide (r.w = sClear) || fullAt vs r.o)
def baseL (vs : List Nat) : List Int := (List.range vs.length).map fun k => if vs.getD k 0 = 46 then -1 else (k : Int)
def origL (r : Ln) (vs : List Nat) : List Int :=
  if worksL r vs = true then (if r.w = sMove then ((baseL vs).set r.t.toNat r.o).set r.o.toNat (-1) else (baseL vs).set r.t.toNat r.o) else baseL vs
def carL (held es : List Int) : List Int := held.map fun k => if k = -1 then -1 else es.getD k.toNat 0
/-- each entry is -1 or a place -/
def Held (n : Nat) (hs : List Int) : Prop := ∀ k ∈ hs, k = -1 ∨ (0 ≤ k ∧ k < n)
theorem base_len (vs : List Nat) : (baseL vs).length = vs.length := by simp [baseL]
theorem base_held (vs : List Nat) : Held vs.length (baseL vs) := fun k hk => by
  obtain ⟨j, hj, rfl⟩ := List.mem_map.mp hk
  have q := List.mem_range.mp hj
  split
  · exact .inl rfl
  · exact .inr ⟨by omega, by omega⟩
theorem orig_len (r : Ln) (vs : List Nat) : (origL r vs).length = vs.length := by
  unfold origL
  split
  · split
    · rw [List.length_set, List.length_set, base_len]
    · rw [List.length_set, base_len]
  · exact base_len vs
theorem set_held {n : Nat} {hs : List Int} {j : Nat} {x : Int} (h : Held n hs) (hx : x = -1 ∨ (0 ≤ x ∧ x < n)) : Held n (hs.set j x) := fun k hk => by
  rcases List.mem_or_eq_of_mem_set hk with q | q
  · exact h k q
  · rw [q]; exact hx
theorem LnOk.src {n : Nat} {r : Ln} (h : LnOk n r) : r.o = -1 ∨ (0 ≤ r.o ∧ r.o < n) := by
  rcases h.word with ⟨_, e⟩ | ⟨_, e1, e2, _⟩
  · exact .inl e
  · exact .inr ⟨e1, e2⟩
theorem orig_held {r : Ln} {vs : List Nat} (h : LnOk vs.length r) : Held vs.length (origL r vs) := by
  unfold origL
  split
  · split
    · exact set_held (set_held (base_held vs) h.src) (.inl rfl)
    · exact set_held (base_held vs) h.src
  · exact base_held vs
theorem codes_len (es : List Int) : (codes es).length = es.length := by simp [codes]
/-- the look behind a line, by the look and by the image -/
theorem atI_ints {es : List Int} {k : Int} (h0 : 0 ≤ k) (h1 : k < es.length) : atI (es.map V.int) k = some (.int (es.getD k.toNat 0)) := by
  obtain ⟨v, e1, e2, _⟩ := atI_int (xs := es.map V.int) h0 (by rw [List.length_map]; exact h1)
  rw [e1, ← e2, List.getElem?_map, List.getD_eq_getElem?_getD, List.getElem?_eq_getElem (by omega)]
  rfl
theorem car_get {hs es : List Int} {i : Nat} (hi : i < hs.length) : ((carL hs es).map V.int)[i]? = some (.int (if hs[i] = -1 then -1 else es.getD hs[i].toNat 0)) := by
  unfold carL
  rw [List.getElem?_map, List.getElem?_map, List.getElem?_eq_getElem hi]
  rfl
end Rv
/-! lines one behind the other; twice is once; lists of tuples in a heap -/
namespace Rv
open PySem PySem.Spec PyProof.Rows L2
theorem getD_get {es : List Int} {k : Nat} (h : k < es.length) : es.getD k 0 = es[k] := by
  rw [List.getD_eq_getElem?_getD, List.getElem?_eq_getElem h]
  rfl
theorem getD_getN {es : List Nat} {k : Nat} (h : k < es.length) : es.getD k 0 = es[k] := by
  rw [List.getD_eq_getElem?_getD, List.getElem?_eq_getElem h]
  rfl
theorem base_get {v : List Nat} {j : Nat} (h : j < v.length) : (baseL v)[j]'(by rw [base_len]; exact h) = if v[j] = 46 then -1 else (j : Int) := by
  unfold baseL
  rw [List.getElem_map, List.getElem_range, getD_getN h]
/-! lists of tuples -/
def TupsAt (H : Hp) (ps : List Addr) (vss : List (List V)) : Prop := ps.length = vss.length ∧ ∀ (i : Nat) (vs : List V), vss[i]? = some vs → ∃ p, ps[i]? = some p ∧ H p = some (.tup vs)
section
variable {H H' : Hp} {ps : List Addr} {vss : List (List V)} {p : Addr} {vs : List V} {c b : Addr} {ns : List Int}
theorem TupsAt.nil : TupsAt H [] [] := ⟨rfl, fun i vs e => by simp at e⟩
theorem TupsAt.same (S : Same H H') (h : TupsAt H ps vss) : TupsAt H' ps vss := ⟨h.1, fun i vs e => by
  obtain ⟨p, e1, e2⟩ := h.2 i vs e
  exact ⟨p, e1, S _ _ e2⟩⟩
/-- an object that is no tuple changes -/
theorem TupsAt.mut {a : Addr} {xs : List V} {o : HO} (ha : H a = some (.lst xs)) (h : TupsAt H ps vss) : TupsAt (upd H a o) ps vss := ⟨h.1, fun i vs e => by
  obtain ⟨p, e1, e2⟩ := h.2 i vs e
  exact ⟨p, e1, by rw [upd_ne (ne_of e2 ha (by intro z; cases z))]; exact e2⟩⟩
theorem TupsAt.app (h : TupsAt H ps vss) (hp : H p = some (.tup vs)) : TupsAt H (ps ++ [p]) (vss ++ [vs]) := ⟨by rw [List.length_append, List.length_append, h.1]; rfl, fun i us e => by
  by_cases k : i < vss.length
  · rw [List.getElem?_append_left k] at e
    obtain ⟨q, e1, e2⟩ := h.2 i us e
    exact ⟨q, by rw [List.getElem?_append_left (by rw [h.1]; exact k)]; exact e1, e2⟩
  · rw [List.getElem?_append_right (by omega)] at e
    have hi : i - vss.length = 0 := by
      have := (List.getElem?_eq_some_iff.mp e).1
      simp at this
      omega
    rw [hi] at e
    have e3 : vs = us := by simpa using e
    refine ⟨p, ?_, e3 ▸ hp⟩
    rw [List.getElem?_append_right (by rw [h.1]; omega), h.1, hi]
    rfl⟩
theorem TupsAt.take (h : TupsAt H ps vss) (k : Nat) : TupsAt H (ps.take k) (vss.take k) := ⟨by rw [List.length_take, List.length_take, h.1], fun i vs e => by
  have hi : i < k := by
    have := (List.getElem?_eq_some_iff.mp e).1
    rw [List.length_take] at this
    omega
  rw [List.getElem?_take_of_lt hi] at e
  obtain ⟨q, e1, e2⟩ := h.2 i vs e
  exact ⟨q, by rw [List.getElem?_take_of_lt hi]; exact e1, e2⟩⟩
theorem TupsAt.drop (h : TupsAt H ps vss) (k : Nat) : TupsAt H (ps.drop k) (vss.drop k) := ⟨by rw [List.length_drop, List.length_drop, h.1], fun i vs e => by
  rw [List.getElem?_drop] at e
  obtain ⟨q, e1, e2⟩ := h.2 _ vs e
  exact ⟨q, by rw [List.getElem?_drop]; exact e1, e2⟩⟩
end
def rows (rs : List Ln) : List (List V) := rs.map Ln.vals
theorem take_next {α : Type} {rs : List α} {i : Nat} (h : i < rs.length) : rs.take (i + 1) = rs.take i ++ [rs[i]] := by
  rw [List.take_add_one, List.getElem?_eq_getElem h]
  rfl
end Rv
/-! flows; texts repeated; lists of lines compared -/
namespace Rv
open PySem PySem.Spec PyProof.Rows L2
def own (n : Nat) : List Int := (List.range n).map fun (i : Nat) => (i : Int)
theorem own_len (n : Nat) : (own n).length = n := by simp [own]
theorem cut_from {xs : List V} {k : Nat} (h : k ≤ xs.length) : cutV xs (some (k : Int)) none = xs.drop k := by
  unfold cutV
  rw [HT.sIx_none, HT.sIx_nat, Nat.min_eq_left h]
  exact List.take_of_length_le (by rw [List.length_drop]; exact Nat.le_refl _)
/-! deep comparisons -/
end Rv
/-! the match statement: patterns of texts, names and sequences over lists -/
namespace Rv
open PySem PySem.Spec PyProof.Rows L2
abbrev Bs := List (Nat × V)
abbrev TP := V → Hp → (Option Bs → Hp → Prop) → Prop
abbrev TPs := List V → Hp → (Option Bs → Hp → Prop) → Prop
section
variable {X : Cx}
end
/-! steps of these readings -/
section
variable {σ : L2.St} {H : Hp} {K : PySem.W.Frag} {te : TE} {tc tr : TC} {D : Ends} {tp : TP} {ts : TPs} {tg : TT} {tb : TS} {v : V} {Q : Option Bs → Hp → Prop} {a : Addr} {xs : List V} {n : Nat} {r : List V}
end
end Rv
/-! texts of lines: words, numbers, what is read -/
namespace Rv
open PySem PySem.Spec PyProof.Rows L2
/-! rules under names of their own -/
def rIsNQ : R2 := fun x y H Q => y = .non ∧ Q (.bl (decide (x = .non))) H
def rIntZ : List V → Hp → VK → Prop := fun xs H Q => ∃ a n, xs = [.str a] ∧ PySem.intText? a = some n ∧ a.length ≤ 640 ∧ Q (.int n) H
def tTruQ (K : PySem.W.Frag) (ta : TE) : TT := fun σ H Q => ta σ H fun x H' => ∃ k, TruV K x H' k ∧ Q k H'
section
variable {X : Cx}
theorem op_isNQ : OpR X (compareOp .Is) rIsNQ := op_isN
theorem call_intZ : CallR X (.type "int") rIntZ := call_int_str
theorem pt_truQ {a : Expr} {ta : TE} (ha : PE X a ta) (he : ∀ whole, isTrue a X.env whole = (do let v ← whole; standAt a.pos; holding [v] (truthy v))) : PT X a (tTruQ X.K ta) := pt_truth ha he
end
section
variable {σ : L2.St} {H : Hp} {K : PySem.W.Frag} {Q : VK} {te to : TE} {ts : List TE} {a b acc : List Nat} {p : Addr} {xs : List V} {QB : Bool → Hp → Prop}
theorem rd_isN {v : V} (q : Q (.bl (decide (v = .non))) H) : rIsNQ v .non H Q := ⟨rfl, q⟩
theorem num_txt (k : Nat) : Str.ofString (toString ((k : Nat) : Int)) = txt (TL.numL k) := TL.ext_tl (TL.tl_num k)
end
/-! the numbers of blocks, written -/
theorem num_len {k : Nat} (h : k < 12) : (TL.numL k).length ≤ 2 := TL.numL_len (by decide) (by omega)
theorem rd_intN {k : Nat} {H : Hp} {Q : VK} (h : k < 12) (q : Q (.int (k : Int)) H) : rIntZ [.str (txt (TL.numL k))] H Q := by
  have l := num_len h
  refine ⟨_, _, rfl, ?_, by rw [txt_len]; omega, q⟩
  rw [← num_txt]
  exact TL.int_num (by omega)
/-! what is read -/
structure RdOk (r : Ln) : Prop where
  t0 : 0 ≤ r.t
  t1 : r.t < 12
  word : (r.w = sClear ∧ r.o = -1) ∨ ((r.w = sCopy ∨ r.w = sMove) ∧ 0 ≤ r.o ∧ r.o < 12 ∧ r.o ≠ r.t)
  gl : r.g.length ≤ 12
  gs : ∀ c ∈ r.g, Sign c
/-! deep comparisons of lines that are read -/
end Rv
/-! own errors: made, raised, caught, asked -/
namespace Rv
open PySem PySem.Spec PyProof.Rows L2
/-- what stands at the top under a name, if it is an object -/
def atTop (K : PySem.W.Frag) (x : Str) : Addr := match PySem.W.nsIn K mainGlobals x with
  | some (some (.ref a)) => a
  | _ => 0
theorem atTop_of {K : PySem.W.Frag} {x : Str} {a : Addr} (h : PySem.W.nsIn K mainGlobals x = some (some (.ref a))) : atTop K x = a := by
  unfold atTop
  rw [h]
/-- an error class with one field f, its own maker at fI -/
structure ErrT (K : PySem.W.Frag) (mg : Str → Option Value) (C fI : Addr) (x f : Str) : Prop where
  gC : mg x = some (.ref C)
  ox : OexC K C
  xf : XfC K C
  ec : ExcC K C
  icl : PySem.W.isClsIn K C = true
  noN : PySem.W.findIn K (.ref C) f = some none
  iC : PySem.W.findIn K (.ref C) "__init__" = some (some (.ref fI))
  tI : PySem.W.typeIn K (.ref fI) = some (.type "function")
theorem exm_of {K : PySem.W.Frag} {S T : Addr} {b : Bool} (h1 : PySem.W.subIn K (.ref T) (.type "BaseException") = some true) (h2 : PySem.W.isClsIn K T = true) (h3 : PySem.W.typeIn K (.ref T) = some (.type "type")) (h4 : PySem.W.subIn K (.ref S) (.ref T) = some b) :
    PySem.W.exmOne K (.ref S) (.ref T) = some b := by
  have e1 : (PySem.W.subIn K (.ref T) (.type "BaseException") == some true) = true := by rw [h1] <;> rfl
  have e2 : ((PySem.W.clsIn K T).isSome && PySem.W.typeIn K (.ref T) == some (.type "type")) = true := by
    have h2' : (PySem.W.clsIn K T).isSome = true := h2
    rw [h2', h3] <;> rfl
  show (if (PySem.W.subIn K (.ref T) (.type "BaseException") == some true) = true then (if ((PySem.W.clsIn K T).isSome && PySem.W.typeIn K (.ref T) == some (.type "type")) = true then PySem.W.subIn K (.ref S) (.ref T) else none) else none) = some b
  rw [if_pos e1, if_pos e2]
  exact h4
/-- self.f = v, the maker's promise -/
def spErr (C : Addr) (f : Str) : Sp := fun vs H Q _ => ∃ (a : Addr) (v : V), vs = [.ref a, v] ∧ H a = some (exo a C none) ∧ ∀ d, H d = none → d ≠ a → Q .non (upd (upd H d (exd d [(f, v)])) a (exo a C (some d)))
def tRaiseQ (W : WX) (t : L2.St → Hp → XK → Prop) : TS := fun _ σ H => t σ H fun cls d H' => W cls d σ H'
section
variable {X : Cx} {x n : Str} {c : Value} {i : Nat} {body suite : List Stmt} {b₀ : Stmt} {np pos pos' : Pos}
end
section
variable {σ : L2.St} {H : Hp} {K : PySem.W.Frag} {D : Ends} {Q : VK} {tb : WX → TS} {ts : Addr → Value → Option Addr → TS} {c : Value} {i : Nat} {W : WX} {ta : TA} {C a : Addr} {cls : Value} {d : Option Addr} {f : Str} {te : TE}
theorem rd_mkO {sp : Sp} {Q : XK} (q : ta σ H fun vs H1 => vs.length ≤ 1000 ∧ ∀ a, H1 a = none → sp (.ref a :: (vs ++ [])) (upd H1 a (exo a C none)) (fun v H2 => v = .non ∧ ∃ (d : Addr) (fs : List (Str × V)), H2 a = some (exo a C (some d)) ∧ H2 d = some (exd d fs) ∧ H1 d = none ∧ Q (.ref C) (some d) (upd (del H2 a) d (.xd fs))) (fun _ _ _ => False)) : tMkO C sp [] ta σ H Q := q
theorem rd_xfQ (q : te σ H fun x H1 => x = .ref a ∧ cls = .ref C ∧ ∃ (dd : Addr) (fs : List (Str × V)) (v : V), d = some dd ∧ H1 dd = some (.xd fs) ∧ fs.lookup f = some v ∧ Q v H1) : tXf a cls d C f te σ H Q := q
theorem rd_callS {sp : Sp} {E : L2.St → XK} (q : ta σ H fun vs H1 => sp vs H1 Q (E σ)) : tCallS sp E ta σ H Q := q
theorem rd_raise {t : L2.St → Hp → XK → Prop} (q : t σ H fun cls d H' => W cls d σ H') : tRaiseQ W t D σ H := q
theorem mkErr {Q : XK} {v : V} {H1 : Hp} (q : ∀ H' d, Same H1 H' → H' d = some (.xd [(f, v)]) → Q (.ref C) (some d) H') : [v].length ≤ 1000 ∧ ∀ a, H1 a = none → spErr C f (.ref a :: ([v] ++ [])) (upd H1 a (exo a C none))
  (fun v H2 => v = .non ∧ ∃ (d : Addr) (fs : List (Str × V)), H2 a = some (exo a C (some d)) ∧ H2 d = some (exd d fs) ∧ H1 d = none ∧ Q (.ref C) (some d) (upd (del H2 a) d (.xd fs))) (fun _ _ _ => False) := by
  refine ⟨by simp, fun a na => ⟨a, v, rfl, upd_same, fun d nd ne => ⟨rfl, d, [(f, v)], upd_same, ?_, ?_, ?_⟩⟩⟩
  · rw [upd_ne ne, upd_same]
  · rw [upd_ne ne] at nd
    exact nd
  · rw [upd_ne ne] at nd
    refine q _ d (fun b o e => ?_) upd_same
    have n1 : b ≠ a := ne_of_none e na
    have n2 : b ≠ d := ne_of_none e nd
    rw [upd_ne n2, del_ne n1, upd_ne n1, upd_ne n2, upd_ne n1]
    exact e
end
end Rv
/-! texts that may be wrong: what is read of them, line by line -/
namespace Rv
open PySem PySem.Spec PyProof.Rows L2
/-! rules of their own names, for texts that are bent -/
section
variable {σ : L2.St} {H : Hp} {K : PySem.W.Frag} {Q : VK} {te to : TE} {a b : List Nat} {p p2 : Addr} {xs ys : List V}
end
/-- words that are bounded: how many, how long in all, plain signs -/
structure Wb (n t : Nat) (ws : List (List Nat)) : Prop where
  n : ws.length ≤ n
  t : ws.flatten.length ≤ t
  c : ∀ w ∈ ws, ∀ c ∈ w, c < 128
theorem Wb.len {n t : Nat} {a : List (List Nat)} (h : Wb n t a) : ∀ w ∈ a, w.length ≤ t := fun w hw => by
  have : w.length ≤ a.flatten.length := by
    obtain ⟨i, hi, rfl⟩ := List.mem_iff_getElem.mp hw
    clear h hw
    induction a generalizing i with
    | nil => exact absurd hi (Nat.not_lt_zero _)
    | cons x r ih =>
      rw [List.flatten_cons, List.length_append]
      cases i with
      | zero => show x.length ≤ _; omega
      | succ i => have := ih i (by simpa using hi); simp only [List.getElem_cons_succ]; omega
  exact Nat.le_trans this h.t
end Rv
/-! boxes of draws of any make; pairs; calls with defaults, with a star; several named clauses -/
namespace Rv
open PySem PySem.Spec PyProof.Rows L2
/-- a box of draws: where it is, what of it changes, what it rests on -/
structure Box where
  b : Addr
  m : List Addr
  fp : List Addr
  I : Hp → Prop
  sub : ∀ a ∈ m, a ∈ fp
  live : ∀ H, I H → ∀ a ∈ fp, ∃ xs, H a = some (.lst xs)
  frame : ∀ H H', I H → (∀ a ∈ fp, H' a = H a) → I H'
structure Wg (B : Box) (H0 H : Hp) : Prop where
  keep : ∀ a o, a ∉ B.m → H0 a = some o → H a = some o
  i0 : B.I H0
  i1 : B.I H
section
variable {B : Box} {p a : Addr} {H0 H H1 H2 : Hp} {o : HO} {xs : List V}
theorem Box.ne (i : B.I H) (np : H p = none) : p ∉ B.fp := fun h => by
  obtain ⟨ys, e⟩ := B.live _ i p h
  rw [np] at e
  cases e
theorem Box.nem (i : B.I H) (np : H p = none) : p ∉ B.m := fun h => B.ne i np (B.sub _ h)
theorem Box.upd (i : B.I H) (n : p ∉ B.fp) : B.I (upd H p o) := B.frame _ _ i fun a ha => upd_ne fun e => n (e ▸ ha)
theorem Box.same (i : B.I H) (S : Same H H1) : B.I H1 := B.frame _ _ i fun a ha => by
  obtain ⟨ys, e⟩ := B.live _ i a ha
  rw [e]
  exact S _ _ e
theorem Wg.refl (i : B.I H) : Wg B H H := ⟨fun _ _ _ h => h, i, i⟩
theorem Wg.trans (w : Wg B H0 H1) (w2 : Wg B H1 H2) : Wg B H0 H2 := ⟨fun a o n h => w2.keep a o n (w.keep a o n h), w.i0, w2.i1⟩
theorem Wg.ofSame (i : B.I H) (S : Same H H1) : Wg B H H1 := ⟨fun a o _ h => S a o h, i, B.same i S⟩
theorem Wg.same (w : Wg B H0 H1) (S : Same H1 H2) : Wg B H0 H2 := w.trans (.ofSame w.i1 S)
theorem Wg.free (w : Wg B H0 H) (np : H p = none) : H0 p = none := by
  cases e : H0 p with
  | none => rfl
  | some o =>
    have n := B.nem w.i1 np
    rw [w.keep p o n e] at np
    cases np
theorem Wg.lst (w : Wg B H0 H) (n : a ∉ B.m) (h : H0 a = some o) : H a = some o := w.keep a o n h
theorem Wg.mut (w : Wg B H0 H) (np : H0 p = none) : Wg B H0 (upd H p o) :=
  ⟨fun a u n h => by rw [upd_ne (ne_of_none h np)]; exact w.keep a u n h, w.i0, B.upd w.i1 (B.ne w.i0 np)⟩
end
/-- the tuples stay -/
def Kt (H H' : Hp) : Prop := ∀ a xs, H a = some (.tup xs) → H' a = some (.tup xs)
section
variable {B : Box} {p a : Addr} {H0 H H1 H2 : Hp} {o : HO} {xs : List V}
theorem Kt.mut (h : H p = some (.lst xs)) : Kt H (upd H p o) := fun a ys e => by
  rw [upd_ne (ne_of e h (by intro z; cases z))]
  exact e
theorem Kt.new (h : H p = none) : Kt H (upd H p o) := fun a ys e => by
  rw [upd_ne (ne_of_none e h)]
  exact e
theorem TupsAt.kt {ps : List Addr} {vss : List (List V)} (w : Kt H H1) (h : TupsAt H ps vss) : TupsAt H1 ps vss := ⟨h.1, fun i vs e => by
  obtain ⟨p, e1, e2⟩ := h.2 i vs e
  exact ⟨p, e1, w _ _ e2⟩⟩
end
/-- a comprehension within a def that draws; Pv rests on tuples alone -/
theorem lc_wg {B : Box} {J : It} {n : Nat} {G : Hp → Prop} {Y : Nat → Hp → V → Hp → Prop} (w : Walk J n G Y) {g : TG} {tt : TT} {te : TE} {vs : List Nat} {σ : L2.St} {H0 : Hp} {Q : VK} (i0 : B.I H0) (Pv : Nat → List V → Hp → Prop) (p0 : ∀ H, Kt H0 H → Pv 0 [] H)
    (st : ∀ i acc H H', Kt H H' → Pv i acc H → Pv i acc H')
    (sm : ∀ i acc H, Pv i acc H → acc.length < 1000) (hG : ∀ H, Wg B H0 H → G H)
    (hs : ∀ i x H H' acc (Qc : VK) (R : Hp → Prop), i < n → Wg B H0 H → Pv i acc H → Y i H x H' → (∀ y H4, Wg B H H4 → Pv (i + 1) (acc ++ [y]) H4 → Qc y H4) → (∀ H4, Wg B H H4 → Pv (i + 1) acc H4 → R H4) →
      g x (wipe σ vs) H' fun σ2 H2 => wipe σ2 vs = wipe σ vs ∧ tt σ2 H2 fun b H3 => if b = true then te σ2 H3 Qc else R H3)
    (hd : ∀ H D acc, Wg B H0 H → H0 D = none → H D = some (.lst acc) → Pv n acc H → Q (.ref D) H) : Lc J g tt te vs σ H0 Q := fun D nD => by
  have nm := B.nem i0 nD
  exact lc_it w (Qd := fun H => Q (.ref D) H) (fun i H => Wg B H0 H ∧ ∃ acc, H D = some (.lst acc) ∧ Pv i acc H) ⟨(Wg.refl i0).mut nD, [], upd_same, p0 _ (Kt.new nD)⟩ (fun i H _ p => hG H p.1)
    (fun i x H H' hi p y => by
      obtain ⟨w0, acc, hD, pa⟩ := p
      refine hs i x H H' acc _ _ hi w0 pa y (fun z H4 w4 pz => ?_) (fun H4 w4 pz => ⟨w0.trans w4, acc, w4.lst nm hD, pz⟩)
      have hD4 := w4.lst nm hD
      exact ⟨acc, hD4, small1000 (by have := sm i acc H pa; omega), (w0.trans w4).mut nD, _, upd_same, st _ _ _ _ (Kt.mut hD4) pz⟩)
    (fun H p => by
      obtain ⟨w0, acc, hD, pa⟩ := p
      exact hd H D acc w0 nD hD pa)
/-! pairs -/
def pv (p : Int × Int) : List V := [.int p.1, .int p.2]
structure PairOk (n : Nat) (p : Int × Int) : Prop where
  t0 : 0 ≤ p.1
  t1 : p.1 < n
  s0 : 0 ≤ p.2
  s1 : p.2 < n
  ne : p.1 ≠ p.2
def pvs (ps : List (Int × Int)) : List (List V) := ps.map pv
theorem pvs_len (ps : List (Int × Int)) : (pvs ps).length = ps.length := by simp [pvs]
/-! calls -/
/-- a def with one default, None -/
structure DefD (K : PySem.W.Frag) (mg : Str → Option Value) (x : Str) (st : Stmt) (ps : List Str) (f : Addr) (fd : FuncData) : Prop where
  F : FunD K x x (defArgs st) (defBody st) (defScope st) [.non] [] f fd
  b : Binds K fd ps []
  b1 : ∃ ds, Vals [V.non] ds ∧ Binds K fd ps ds
  g : mg x = some (.ref f)
/-- a def whose only parameter is starred -/
structure DefS (K : PySem.W.Frag) (mg : Str → Option Value) (x : Str) (st : Stmt) (f : Addr) (fd : FuncData) : Prop where
  F : Fun K x x st f fd
  g : mg x = some (.ref f)
section
variable {X : Cx} {k : Nat} {f : Addr} {sp : Sp} {x : Str} {p pos : Pos} {e : Expr} {es : List Expr} {t : TA} {CX : CXT} {E : XK}
end
end Rv
/-! several except clauses, each with a name of its own -/
namespace Rv
open PySem PySem.Spec PyProof.Rows L2
abbrev Suite := Addr → Value → Option Addr → TS
/-- what follows a suite whose name (slot i) is taken away again -/
def clr (i : Nat) (D : Ends) : Ends := ⟨fun σ H => D.nx (σ.set i none) H, D.rt, fun σ H => D.bk (σ.set i none) H, fun σ H => D.ct (σ.set i none) H⟩
/-- the clauses' wish, from the first on: class, slot, suite -/
def wCl (K : PySem.W.Frag) (D : Ends) : List (Value × Nat × Suite) → WX
  | [] => fun _ _ _ _ => False
  | (c, i, ts) :: r => fun q d σ H => ∃ b, PySem.W.exmOne K q c = some b ∧
      if b = true then ∀ a, H a = none → ts a q d (clr i D) (σ.set i (some (.ref a))) H else wCl K D r q d σ H
section
variable {X : Cx} {pins : List (Addr × Obj)} {σ : L2.St} {H : Hp} {s s' : Shared} {a : Addr} {G h3 : Heap} {D : Ends} {q : Value} {d : Option Addr}
end
def tTryM (K : PySem.W.Frag) (l : List (Value × Nat × Suite)) (tb : WX → TS) : TS := fun D σ H => tb (wCl K D l) D σ H
end Rv
/-! more steps of a reading; data at any depth; items that may be no lines; copy logs -/
namespace Rv
open PySem PySem.Spec PyProof.Rows L2
/-! methods of lists -/
def rPopQ : V → List V → Hp → VK → Prop := fun x vs H Q => ∃ (l : Addr) (xs : List V) (k : Nat) (y : V), x = .ref l ∧ vs = [.int (k : Int)] ∧ H l = some (.lst xs) ∧ xs[k]? = some y ∧ k ≤ 1000 ∧ Q y (upd H l (.lst (xs.eraseIdx k)))
theorem mt_popQ {X : Cx} : MtM X "list.pop" rPopQ := fun pins s σ H x xs v us Q I rx rs h => by
  obtain ⟨l, ys, k, y, rfl, rfl, e, h1, h2, q⟩ := h
  have hk : k < ys.length := by
    by_cases z : k < ys.length
    · exact z
    · rw [List.getElem?_eq_none (by omega)] at h1
      cases h1
  refine mt_popAt pins s σ H _ _ v us Q I rx rs ⟨l, ys, (k : Int), k, y, rfl, rfl, e, by omega, by omega, ?_, h1, q⟩
  unfold seqIndex?
  have e1 : (if (k : Int) < 0 then (k : Int) + (ys.length : Int) else (k : Int)) = (k : Int) := if_neg (by omega)
  show (if (decide (0 ≤ (if (k : Int) < 0 then (k : Int) + (ys.length : Int) else (k : Int))) && decide ((if (k : Int) < 0 then (k : Int) + (ys.length : Int) else (k : Int)) < (ys.length : Int))) = true then _ else _) = _
  rw [e1, if_pos (by rw [Bool.and_eq_true]; exact ⟨decide_eq_true (by omega), decide_eq_true (by omega)⟩), Int.toNat_natCast]
section
variable {σ : L2.St} {H : Hp} {K : PySem.W.Frag} {Q : VK} {te : TE} {tr : TA} {p p2 l : Addr} {xs ys : List V} {R : It → Hp → Prop} {y : V} {k : Nat} {QB : Bool → Hp → Prop}
theorem rd_popQ (h : H l = some (.lst xs)) (e : xs[k]? = some y) (hk : k ≤ 1000) (q : Q y (upd H l (.lst (xs.eraseIdx k)))) : rPopQ (.ref l) [.int (k : Int)] H Q := ⟨l, xs, k, y, rfl, rfl, h, e, hk, q⟩
theorem rd_truLv {i : Nat} (hv : σ[i]? = some (some (.ref p))) (h : H p = some (.lst xs)) (q : QB (!xs.isEmpty) H) : tTruQ K (tVar i) σ H QB := ⟨_, hv, _, .inl ⟨xs, SqL.of h, rfl⟩, q⟩
theorem rd_catL {xs ys : List V} (h : H p = some (.lst xs)) (h2 : H p2 = some (.lst ys)) (hl : xs.length + ys.length ≤ 1000) (q : ∀ l, H l = none → Q (.ref l) (upd H l (.lst (xs ++ ys)))) : rCat (.ref p) (.ref p2) H Q := ⟨p, p2, xs, ys, rfl, rfl, h, h2, Nat.le_of_lt (small1000 (by omega)), q⟩
theorem kit_lt : kitB "list" "tuple" = some false := by decide +kernel
theorem rd_inLf {x : V} (h : H p = some (.lst xs)) (fx : flatV x = true) (fs : xs.all flatV = true) (q : Q (.bl (inV x xs)) H) : rIn K false x (.ref p) H Q := ⟨p, xs, rfl, .inl (SqL.of h), fx, fs, q⟩
theorem rd_ninLf {x : V} (h : H p = some (.lst xs)) (fx : flatV x = true) (fs : xs.all flatV = true) (q : Q (.bl (!inV x xs)) H) : rIn K true x (.ref p) H Q := ⟨p, xs, rfl, .inl (SqL.of h), fx, fs, q⟩
end
theorem flat_ints (ns : List Int) : (ns.map V.int).all flatV = true := List.all_eq_true.mpr fun x h => by
  obtain ⟨n, _, rfl⟩ := List.mem_map.mp h
  rfl
theorem inV_ints {k : Int} {ns : List Int} : inV (.int k) (ns.map V.int) = decide (k ∈ ns) := by
  unfold inV
  rw [List.any_map]
  have e : ((fun y => eqV y (.int k)) ∘ V.int) = fun n : Int => n == k := by
    funext n
    rfl
  rw [e, Bool.eq_iff_iff, List.any_eq_true, decide_eq_true_eq]
  exact ⟨fun ⟨x, h1, h2⟩ => by rw [← beq_iff_eq.mp h2]; exact h1, fun h => ⟨k, h, beq_self_eq_true _⟩⟩
theorem rd_idx {K : PySem.W.Frag} {H : Hp} {Q : VK} {p : Addr} {ns : List Int} {k : Int} {j : Nat} (h : H p = some (.lst (ns.map V.int))) (e : ns[j]? = some k) (no : ∀ m, m < j → ns[m]? ≠ some k) (q : Q (.int (j : Int)) H) : rIndex K (.ref p) [.int k] H Q := by
  refine ⟨p, _, .int k, j, .int k, rfl, rfl, SqL.of h, rfl, flat_ints ns, by rw [List.getElem?_map, e]; rfl, beq_self_eq_true _, fun m z hm ez => ?_, q⟩
  rw [List.getElem?_map] at ez
  cases e2 : ns[m]? with
  | none => rw [e2] at ez; cases ez
  | some n =>
    rw [e2] at ez
    cases ez
    have ne := no m hm
    rw [e2] at ne
    exact beq_eq_false_iff_ne.mpr fun z => ne (by rw [z])
/-! data at any depth -/
structure Sh (k : Nat) (d : PyData) : Prop where
  l : PyData.canLay0 d = true
  d : PyData.depth d ≤ k
theorem Sh.int {k : Nat} (i : Int) : Sh k (.int i) := ⟨rfl, Nat.zero_le _⟩
theorem Sh.bool {k : Nat} (b : Bool) : Sh k (.bool b) := ⟨rfl, Nat.zero_le _⟩
theorem Sh.str {k : Nat} {s : Str} (h : PyData.strOk s = true) : Sh k (.str s) := ⟨h, Nat.zero_le _⟩
theorem Sh.all {k : Nat} : ∀ {ds : List PyData}, (∀ d ∈ ds, Sh k d) → PyData.canLayAll0 ds = true ∧ PyData.depthAll ds ≤ k
  | [], _ => ⟨rfl, Nat.zero_le _⟩
  | d :: r, h => by
    obtain ⟨a1, a2⟩ := h d (List.mem_cons_self ..)
    obtain ⟨b1, b2⟩ := Sh.all fun e he => h e (List.mem_cons_of_mem _ he)
    constructor
    · show (PyData.canLay0 d && PyData.canLayAll0 r) = true
      rw [a1, b1]
      rfl
    · show max (PyData.depth d) (PyData.depthAll r) ≤ k
      omega
theorem Sh.tuple {k : Nat} {ds : List PyData} (h : ∀ d ∈ ds, Sh k d) : Sh (k + 1) (.tuple ds) := ⟨(Sh.all h).1, Nat.succ_le_succ (Sh.all h).2⟩
theorem Sh.list {k : Nat} {ds : List PyData} (h : ∀ d ∈ ds, Sh k d) : Sh (k + 1) (.list ds) := ⟨(Sh.all h).1, Nat.succ_le_succ (Sh.all h).2⟩
theorem Sh.shaped {d : PyData} {k : Nat} (h : Sh k d) (hk : k ≤ 64) : SeqAt.shaped d = true := by
  unfold SeqAt.shaped
  rw [Bool.and_eq_true]
  exact ⟨h.l, decide_eq_true (Nat.le_trans h.d hk)⟩
theorem rd_eqd {K : PySem.W.Frag} {H : Hp} {Q : VK} {x y : V} {d : PyData} {k : Nat} (h : Dp K H x d) (h2 : Dp K H y d) (s : Sh k d) (hk : k ≤ 64 := by decide) (q : Q (.bl true) H) : rEqD K x y H Q :=
  ⟨d, d, h, h2, s.shaped hk, s.shaped hk, by rw [SeqAt.eqv_refl _ s.l]; exact q⟩
/-! what may stand in a script -/
inductive Im where
  | tup (xs : List V)
  | lst (xs : List V)
  | non
def ImAt (M : List Addr) (H : Hp) (v : V) : Im → Prop
  | .tup xs => ∃ p, v = .ref p ∧ H p = some (.tup xs)
  | .lst xs => ∃ p, v = .ref p ∧ p ∉ M ∧ H p = some (.lst xs)
  | .non => v = .non
structure ImsAt (M : List Addr) (H : Hp) (vs : List V) (is : List Im) : Prop where
  len : vs.length = is.length
  at_ : ∀ (i : Nat) (it : Im), is[i]? = some it → ∃ v, vs[i]? = some v ∧ ImAt M H v it
/-- four fields: a word, two numbers, a text -/
def Wf : Im → Prop
  | .tup xs => xs.length = 4 → ∃ r : Ln, xs = r.vals ∧ r.g.length ≤ 1000
  | _ => True
def Good (n : Nat) (it : Im) : Prop := ∃ r : Ln, it = .tup r.vals ∧ LnOk n r
/-! scripts that are right, and those that are not -/
end Rv
/-! what copy logs do -/
namespace Rv
open PySem PySem.Spec PyProof.Rows L2
def aft (p : Int × Int) (es : List Int) : List Int := es.set p.1.toNat (es.getD p.2.toNat 0)
def fin (es : List Int) (ps : List (Int × Int)) : List Int := ps.foldl (fun es p => aft p es) es
/-! idle lines -/
/-- a comprehension whose step makes nothing of what stood; Pv tells what is made so far -/
theorem lc_acc2 {J : It} {n : Nat} {G : Hp → Prop} {Y : Nat → Hp → V → Hp → Prop} (w : Walk J n G Y) {g : TG} {tt : TT} {te : TE} {vs : List Nat} {σ : L2.St} {H0 : Hp} {Q : VK} (Pv : Nat → List V → Hp → Prop) (p0 : Pv 0 [] H0)
    (st : ∀ i acc H H', Kt H H' → Pv i acc H → Pv i acc H') (sm : ∀ i acc H, i ≤ n → Pv i acc H → acc.length < 1000) (hG : ∀ H, Same H0 H → G H)
    (hs : ∀ i x H H' acc (Qc : VK) (R : Hp → Prop), i < n → Same H0 H → Pv i acc H → Y i H x H' → (∀ y H4, Same H H4 → Pv (i + 1) (acc ++ [y]) H4 → Qc y H4) → (∀ H4, Same H H4 → Pv (i + 1) acc H4 → R H4) →
      g x (wipe σ vs) H' fun σ2 H2 => wipe σ2 vs = wipe σ vs ∧ tt σ2 H2 fun b H3 => if b = true then te σ2 H3 Qc else R H3)
    (hd : ∀ H D acc, Same H0 H → H0 D = none → H D = some (.lst acc) → Pv n acc H → Q (.ref D) H) : Lc J g tt te vs σ H0 Q := fun D nD =>
  lc_it w (Qd := fun H => Q (.ref D) H) (fun i H => Same H0 H ∧ i ≤ n ∧ ∃ acc, H D = some (.lst acc) ∧ Pv i acc H) ⟨same_new (Same.refl _) nD, Nat.zero_le _, [], upd_same, st _ _ _ _ (Kt.new nD) p0⟩ (fun i H _ p => hG H p.1)
    (fun i x H H' hi p y => by
      obtain ⟨w0, hin, acc, hD, pa⟩ := p
      refine hs i x H H' acc _ _ hi w0 pa y (fun z H4 S4 pz => ?_) (fun H4 S4 pz => ⟨w0.trans S4, hi, acc, S4 _ _ hD, pz⟩)
      have hD4 := S4 _ _ hD
      exact ⟨acc, hD4, small1000 (by have := sm i acc H (by omega) pa; omega), same_mut (w0.trans S4) nD, hi, _, upd_same, st _ _ _ _ (Kt.mut hD4) pz⟩)
    (fun H p => by
      obtain ⟨w0, _, acc, hD, pa⟩ := p
      exact hd H D acc w0 nD hD pa)
theorem lc_acc {J : It} {n : Nat} {G : Hp → Prop} {Y : Nat → Hp → V → Hp → Prop} (w : Walk J n G Y) {g : TG} {tt : TT} {te : TE} {vs : List Nat} {σ : L2.St} {H0 : Hp} {Q : VK} (Pv : Nat → List V → Prop) (p0 : Pv 0 [])
    (sm : ∀ i acc, i ≤ n → Pv i acc → acc.length < 1000) (hG : ∀ H, Same H0 H → G H)
    (hs : ∀ i x H H' acc (Qc : VK) (R : Hp → Prop), i < n → Same H0 H → Pv i acc → Y i H x H' → (∀ y H4, Same H H4 → Pv (i + 1) (acc ++ [y]) → Qc y H4) → (∀ H4, Same H H4 → Pv (i + 1) acc → R H4) →
      g x (wipe σ vs) H' fun σ2 H2 => wipe σ2 vs = wipe σ vs ∧ tt σ2 H2 fun b H3 => if b = true then te σ2 H3 Qc else R H3)
    (hd : ∀ H D acc, Same H0 H → H0 D = none → H D = some (.lst acc) → Pv n acc → Q (.ref D) H) : Lc J g tt te vs σ H0 Q :=
  lc_acc2 w (fun i acc _ => Pv i acc) p0 (fun _ _ _ _ _ p => p) (fun i acc _ => sm i acc) hG hs hd
end Rv
/-! new objects by what holds of them; the box of the laws on copy logs; orders -/
namespace Rv
open PySem PySem.Spec PyProof.Rows L2
def New (o : HO) (n : Nat) (Q : VK) (H : Hp) : Prop := n ≤ sizeLine ∧ ∀ p, H p = none → Q (.ref p) (upd H p o)
def NewL (o : HO) (Q : VK) (H : Hp) : Prop := ∀ p, H p = none → Q (.ref p) (upd H p o)
section
variable {σ : L2.St} {H : Hp} {K : PySem.W.Frag} {Q : VK} {tr : TA} {a : Addr} {xs ys : List V} {o : HO} {n : Nat} {te : L2.St → Hp → (Int → Int → Hp → Prop) → Prop} {lo hi : Option Int}
theorem new_q {R : Hp → Prop} {p : Addr} {o : HO} (np : H p = none) (q : ∀ H2, Same H H2 → H2 p = some o → R H2) : R (upd H p o) := q _ (fun a u e => by rw [upd_ne (ne_of_none e np)]; exact e) upd_same
theorem rd_newL (q : ∀ H2 p, Same H H2 → H p = none → H2 p = some o → Q (.ref p) H2) : NewL o Q H := fun p np => new_q (R := fun H => Q (.ref p) H) np fun H2 S h => q H2 p S np h
theorem rd_newQ (hn : n ≤ 1000) (q : ∀ H2 p, Same H H2 → H p = none → H2 p = some o → Q (.ref p) H2) : New o n Q H := ⟨Nat.le_of_lt (small1000 hn), rd_newL q⟩
theorem rd_tupN (q : tr σ H fun xs H1 => New (.tup xs) xs.length Q H1) : tTup tr σ H Q := q
theorem rd_lstN (q : tr σ H fun xs H1 => New (.lst xs) xs.length Q H1) : tLst tr σ H Q := q
theorem rd_lstLN (h : H a = some (.lst xs)) (q : NewL (.lst xs) Q H) : rLstQ K [.ref a] H Q := ⟨a, xs, rfl, .inl (SqL.of h), q⟩
theorem rd_tupLN (h : H a = some (.lst xs)) (q : NewL (.tup xs) Q H) : rTupQ K [.ref a] H Q := ⟨a, xs, rfl, SqL.of h, q⟩
theorem rd_slLN (h : H a = some (.lst xs)) (q : NewL (.lst (cutV xs lo hi)) Q H) : rSlL K (.ref a) lo hi H Q := ⟨a, xs, rfl, SqL.of h, q⟩
theorem rd_catLN {b : Addr} (h : H a = some (.lst xs)) (h2 : H b = some (.lst ys)) (hl : xs.length + ys.length ≤ 1000) (q : NewL (.lst (xs ++ ys)) Q H) : rCat (.ref a) (.ref b) H Q := rd_catL h h2 hl q
end
/-! dicts by whole numbers -/
theorem rd_dnew {σ : L2.St} {H : Hp} {Q : VK} (q : NewL (.dK []) Q H) : tDNewK σ H Q := q
theorem putK_len1 (c : List (Key × V)) (k : Key) (x : V) : (putK c k x).length ≤ c.length + 1 := by
  unfold putK
  split
  · rw [List.length_map]
    omega
  · rw [List.length_append]
    exact Nat.le_refl _
/-! the box -/
/-! orders of the blocks -/
structure Ord (n : Nat) (os : List Int) : Prop where
  perm : os.Perm (own n)
theorem Ord.len {n : Nat} {os : List Int} (o : Ord n os) : os.length = n := o.perm.length_eq.trans (own_len n)
/-- a list of pairs that grows -/
structure Lg (H : Hp) (l : Addr) (n : Nat) (as : List Addr) (ps : List (Int × Int)) : Prop where
  at_ : H l = some (.lst (as.map V.ref))
  t : TupsAt H as (pvs ps)
  ok : ∀ p ∈ ps, PairOk n p
section
variable {H H' : Hp} {l D : Addr} {n : Nat} {as : List Addr} {ps : List (Int × Int)} {p : Int × Int}
theorem Lg.len (L : Lg H l n as ps) : as.length = ps.length := L.t.1.trans (pvs_len ps)
theorem TupsAt.cat {H : Hp} {xs ys : List (List V)} {as bs : List Addr} (t : TupsAt H as xs) (u : TupsAt H bs ys) : TupsAt H (as ++ bs) (xs ++ ys) := ⟨by rw [List.length_append, List.length_append, t.1, u.1], fun i us e => by
  by_cases z : i < xs.length
  · rw [List.getElem?_append_left z] at e
    obtain ⟨p, e1, e2⟩ := t.2 i us e
    exact ⟨p, by rw [List.getElem?_append_left (by rw [t.1]; exact z)]; exact e1, e2⟩
  · rw [List.getElem?_append_right (by omega)] at e
    obtain ⟨p, e1, e2⟩ := u.2 _ us e
    exact ⟨p, by rw [List.getElem?_append_right (by rw [t.1]; omega), t.1]; exact e1, e2⟩⟩
end
end Rv
/-! items of scripts that are made wrong: their data, their marks -/
namespace Rv
open PySem PySem.Spec PyProof.Rows L2
theorem SqT.sm {K : PySem.W.Frag} {H H' : Hp} {a : Addr} {xs : List V} (S : Same H H') (h : SqT K H a xs) : SqT K H' a xs := h.imp (fun z => z.imp (fun y => S _ _ y) fun ⟨o, y⟩ => ⟨o, S _ _ y⟩) id
mutual
theorem Dp.sm {K : PySem.W.Frag} {H H' : Hp} (S : Same H H') : ∀ {v : V} {d : PyData}, Dp K H v d → Dp K H' v d
  | _, _, .non => .non
  | _, _, .bl b => .bl b
  | _, _, .int i => .int i
  | _, _, .str x => .str x
  | _, _, .lst h k => .lst (Same.seq S h) (DpAll.sm S k)
  | _, _, .tup h k => .tup (SqT.sm S h) (DpAll.sm S k)
theorem DpAll.sm {K : PySem.W.Frag} {H H' : Hp} (S : Same H H') : ∀ {vs : List V} {ds : List PyData}, DpAll K H vs ds → DpAll K H' vs ds
  | _, _, .nil => .nil
  | _, _, .cons h k => .cons (Dp.sm S h) (DpAll.sm S k)
end
/-! fields of items -/
/-! marks: 0 a plain copy, 1 another line, 2 no line -/
/-! texts by multiplication, none among them -/
theorem rd_tryM {K : PySem.W.Frag} {l : List (Value × Nat × Suite)} {tb : WX → TS} {D : Ends} {σ : L2.St} {H : Hp} (q : tb (wCl K D l) D σ H) : tTryM K l tb D σ H := q
end Rv
/-! defs that raise nothing, called within an except suite -/
namespace Rv
open PySem PySem.Spec PyProof.Rows L2
/-- such a def's promise; p: the object of what is handled -/
structure FnQ (P : Program) (w : World) (K : PySem.W.Frag) (mg : Str → Option Value) (base : Heap) (k : Nat) (f : Addr) (fd : FuncData) (ps : List Str) (sp : Sp) : Prop where
  len : ∀ vs H Q E, sp vs H Q E → vs.length = ps.length
  go : ∀ (A : Around) (outer : List Env) (s : Shared) (H : Hp) (args : Args) (us : List Value) (vs : List V) (Q : VK) (E : XK) (p : Addr × Obj),
    L2H.RoomH k A → L2H.PinOk outer H s p → Env0 P w K mg base A outer s H → BindsTo s fd args (ps.zip us) → Vals vs us → sp vs H Q E → codeAny (model P w) A (.call (.ref f) args) (CR CX0 outer P w H s Q E) s
section
variable {P : Program} {w : World} {K : PySem.W.Frag} {mg : Str → Option Value} {base : Heap} {k : Nat} {f : Addr} {fd : FuncData} {N ps : List Str} {sp : Sp} {st : Stmt} {x qual : Str}
end
section
variable {X : Cx} {k : Nat} {f : Addr} {fd : FuncData} {ps : List Str} {sp : Sp} {x : Str} {q pos : Pos} {e : Expr} {es : List Expr} {t : TA}
theorem roomQ {j k : Nat} {A : Around} (r : Room k A) (h : j ≤ k) (e : Option Value) : L2H.RoomH j (A.mark e) := L2H.RoomH.mono (k := k) ⟨r.dp, r.un⟩ h
theorem unitsQ {k : Nat} {A : Around} (r : Room k A) (e : Option Value) : (A.mark e).units + 64 < cLine := r.units
end
end Rv
/-! sets of whole numbers, made of lists and tuples -/
namespace Rv
open PySem PySem.Spec PyProof.Rows L2
section
variable {P : Program} {w : World} {A : Around} {E : Value → Shared → Prop} {s : Shared}
abbrev noSet (w : World) : Obj := ⟨.type "set", none, .set #[] 0 (.fresh 0 0 (!w.params.followText "set-order")), #[]⟩
theorem set_list {l : Addr} {its : Array Value} {ns : List Int} {Q : Value → Shared → Prop} (calm : A.handled = none) (isl : s.heap.IsList l its) (vals : IntsAre its.toList ns) (small : ns.length + 1 < scanBound)
    (fin : ∀ (G : Heap) (tk c : Nat), SetR w G s.heap.objs.size (fun j => decide (j ∈ ns)) c → c ≤ ns.length → (∀ b o, s.heap.get? b = some o → G.get? b = some o) → Q (.ref s.heap.objs.size) { s with heap := G, toks := tk }) :
    wpAny (model P w) A (call (.type "set") [.ref l]) Q E s := by
  have many : its.size = ns.length := by rw [← Array.length_toList]; exact IntsAre.length vals
  obtain ⟨cc, tl, hmro⟩ := F.called_set.mro
  have m0 := F.called_set.made
  have m1 := F.called_set.sub
  have m2 := F.called_set.notType
  have m3 := F.called_set.canCreate
  have m4 := F.typeCall_set_1 (.ref l)
  refine wpAny_call (codeAny_of_tree ?_)
  show wpAny (model P w) _ (callAny (.type "set") ⟨[.ref l], []⟩) _ _ s
  refine wpAny_pure ⟨Code.quiet_builtin _ (by decide +kernel), codeAny_builtin F.entry_type_call ?_⟩
  rw [Around.under_plain (weight_type_call_type "set" [.ref l] []) rfl]
  repeat (any_goals (first | assumption | wp_step))
  refine codeAny_mono (code_set_led1 (.ref l) (E := E) (Q₁ := fun r s1 => r = .ref s.heap.objs.size ∧ s1 = { s with heap := s.heap.push (noSet w) }) ⟨rfl, rfl⟩) fun r s1 hr => ?_
  match r, hr with
  | .error e, hr => exact hr
  | .ok (.ret _), ⟨e1, e2⟩ =>
    subst e1 e2
    have new : (s.heap.push (noSet w)).get? s.heap.objs.size = some (noSet w) := Heap.get?_push_size _ rfl
    have newT : Shared.TypeIs { s with heap := s.heap.push (noSet w) } (.ref s.heap.objs.size) "set" := ⟨_, new, rfl⟩
    have i0 := F.called_set.init.lookup
    have i1 := F.called_set.init.bind (.ref s.heap.objs.size)
    repeat (any_goals (first | assumption | wp_step))
    refine codeAny_mono (codeAny_call_builtin (R := wants (fun r s2 => r = .none ∧ ∃ G tk c, s2 = { s with heap := G, toks := tk } ∧ SetR w G s.heap.objs.size (fun j => decide (j ∈ ns)) c ∧ c ≤ ns.length ∧ ∀ b o, s.heap.get? b = some o → G.get? b = some o) E)
      F.called_set.init.plain F.entry_set_init (check_set_init_1 newT ?_)) fun r2 s2 hr2 => ?_
    · obtain ⟨⟨lc, ld, lt, ls⟩, lget, lcls, nn, ldat⟩ := isl
      obtain rfl : lc = .type "list" := lcls
      obtain rfl : lt = .seq its nn := ldat
      have under : l < s.heap.objs.size := Heap.lt_size lget
      have lget1 : (s.heap.push (noSet w)).get? l = some ⟨.type "list", ld, .seq its nn, ls⟩ := Heap.get?_push_of_some _ lget
      have lat : (s.heap.push (noSet w)).IsList l its := ⟨_, lget1, rfl, nn, rfl⟩
      have k1 := F.sub_list_set
      have k2 := F.sub_list_frozenset
      have k3 : (Value.type "list" == Value.type "dict") = false := by decide
      unfold Builtin.«set.__init__» noKeywords Builtin.Frozenset.updateFrom
      generalize hpi : pyIter = it_
      wp_walk
      subst hpi
      have calm3 : A.in1.in1.in1.handled = none := calm
      have next : (s.heap.push (noSet w)).objs.size = s.heap.objs.size + 1 := Heap.size_push ..
      have apart : l ≠ (s.heap.push (noSet w)).objs.size := fun z => absurd under (by rw [z, next]; exact Nat.not_lt.mpr (Nat.le_succ _))
      have away : s.heap.objs.size ∉ [(s.heap.push (noSet w)).objs.size, l] := fun z => by
        rcases List.mem_cons.mp z with z | z
        · rw [next] at z
          exact absurd z (Nat.ne_of_lt (Nat.lt_succ_self _))
        · exact absurd (List.mem_singleton.mp z).symm (Nat.ne_of_lt under)
      refine wpAny_pyIter_list lat (wpAny_bind (wpAny_runValue (set_update_ints ((Walks.list calm3 _ l apart its).toS) s.heap.objs.size away ns many small (fun i v e => ?_) (its.size - 0) 0 _ (by omega) (Nat.zero_le _) ⟨⟨_, Heap.get?_push_size _ rfl, rfl, rfl⟩, lat.push _⟩ ?_ fun s3 c moved cle sr => ?_)))
      · have hi : i < ns.length := by rw [← many]; exact (Array.getElem?_eq_some_iff.mp e).1
        obtain ⟨t, et⟩ := PyProof.Rows.IntsAre.int_at vals i v (by rw [Array.getElem?_toList]; exact e)
        refine ⟨ns[i], t, List.getElem?_eq_getElem hi, et.trans ?_⟩
        rw [List.getD_eq_getElem?_getD, List.getElem?_eq_getElem hi]
        rfl
      · exact ⟨0, Nat.le_refl 0, setR_new_at (Heap.get?_push_of_some _ new)⟩
      · obtain ⟨G, g3, d3, tk3, os3⟩ := s3
        obtain rfl : g3 = s.gens := moved.gens
        obtain rfl : d3 = s.drawn := moved.drawn
        obtain rfl : os3 = s.os := moved.os
        refine wpAny_pure (wpAny_pure ⟨rfl, G, tk3, c, rfl, sr, by rw [← many]; exact cle, fun b o e => moved.heap b o (fun z => ?_) (Heap.get?_push_of_some _ (Heap.get?_push_of_some _ e))⟩)
        have lo := Heap.lt_size e
        rcases List.mem_cons.mp z with z | z
        · exact absurd z (Nat.ne_of_lt lo)
        · have z2 := List.mem_singleton.mp z
          rw [next] at z2
          exact absurd z2 (Nat.ne_of_lt (Nat.lt_succ_of_lt lo))
    · match r2, hr2 with
      | .error e, hr2 => exact hr2
      | .ok (.ret _), ⟨z1, G, tk, c, z2, sr, cle, kp⟩ =>
        subst z1 z2
        repeat (any_goals (first | assumption | wp_step))
        exact fin _ _ _ sr cle kp
      | .ok .next, hr2 => exact hr2.elim
      | .ok .brk, hr2 => exact hr2.elim
      | .ok .cont, hr2 => exact hr2.elim
  | .ok .next, hr => exact hr.elim
  | .ok .brk, hr => exact hr.elim
  | .ok .cont, hr => exact hr.elim
end
section
variable {X : Cx}
/-- set(xs), xs a list or a tuple of whole numbers -/
def rSetI (K : PySem.W.Frag) (w : World) : List V → Hp → VK → Prop := fun xs H Q => ∃ (p : Addr) (ns : List Int), xs = [.ref p] ∧ (SqL K H p (ns.map V.int) ∨ SqT K H p (ns.map V.int)) ∧ ns.length < 64 ∧
  ∀ (a : Addr) (c : Nat), H a = none → c ≤ ns.length → Q (.ref a) (upd H a (SetO w a (fun j => decide (j ∈ ns)) c))
theorem cr_setI (hc : X.calm = true) : CallR X (.type "set") (rSetI X.K X.w) := by
  intro pins s σ H xs us Q I r h
  obtain ⟨p, ns, rfl, hs, h64, q⟩ := h
  have sb : ns.length + 1 < scanBound := by unfold scanBound; omega
  rw [Vals.ref1 r]
  rcases hs with hs | hs
  · obtain ⟨its, rv, ⟨o, n, ho, hcl, _, hd⟩, _⟩ := I.list hs
    exact set_list (its := its.toArray) (I.ok.hd hc) ⟨o, ho, hcl, n, hd⟩ (ints_of_vals rv) sb fun G tk c R hcn k => ⟨.ref _, upd H s.heap.objs.size (SetO X.w s.heap.objs.size (fun j => decide (j ∈ ns)) c), I.laid (t' := tk) k (Nat.le_refl _) (setO_new R), rfl, q _ c (I.hok.fresh (Nat.le_refl _)) hcn⟩
  · obtain ⟨its, rv, ht, _⟩ := I.tuple hs
    exact call_set_tupI ns (I.ok.hd hc) (show s.heap.IsTuple p its.toArray from ht) (ints_of_vals rv) sb fun G tk c R hcn k => ⟨.ref _, upd H s.heap.objs.size (SetO X.w s.heap.objs.size (fun j => decide (j ∈ ns)) c), I.laid (t' := tk) k (Nat.le_refl _) (setO_new R), rfl, q _ c (I.hok.fresh (Nat.le_refl _)) hcn⟩
end
/-- the ascending list of what stands in a list, once each -/
def Asc (ns os : List Int) : Prop := os.Pairwise (· < ·) ∧ ∀ k, k ∈ os ↔ k ∈ ns
theorem asc_uniq {ns : List Int} : ∀ {a b : List Int}, a.Pairwise (· < ·) → b.Pairwise (· < ·) → (∀ k, k ∈ a ↔ k ∈ b) → a = b
  | [], [], _, _, _ => rfl
  | [], x :: b, _, _, h => absurd ((h x).mpr (List.mem_cons_self ..)) List.not_mem_nil
  | x :: a, [], _, _, h => absurd ((h x).mp (List.mem_cons_self ..)) List.not_mem_nil
  | x :: a, y :: b, pa, pb, h => by
    have ha := List.pairwise_cons.mp pa
    have hb := List.pairwise_cons.mp pb
    have e : x = y := by
      rcases List.mem_cons.mp ((h x).mp (List.mem_cons_self ..)) with z | z
      · exact z
      · rcases List.mem_cons.mp ((h y).mpr (List.mem_cons_self ..)) with u | u
        · exact u.symm
        · have := hb.1 x z
          have := ha.1 y u
          omega
    subst e
    congr 1
    refine asc_uniq (ns := ns) ha.2 hb.2 fun k => ⟨fun m => ?_, fun m => ?_⟩
    · rcases List.mem_cons.mp ((h k).mp (List.mem_cons_of_mem _ m)) with z | z
      · have := ha.1 k m
        omega
      · exact z
    · rcases List.mem_cons.mp ((h k).mpr (List.mem_cons_of_mem _ m)) with z | z
      · have := hb.1 k m
        omega
      · exact z
theorem Asc.uniq {ns a b : List Int} (h : Asc ns a) (k : Asc ns b) : a = b := asc_uniq (ns := ns) h.1 k.1 fun x => (h.2 x).trans (k.2 x).symm
section
variable {K : PySem.W.Frag} {w : World} {H : Hp} {Q : VK} {p a : Addr} {ns : List Int} {c : Nat}
theorem rd_setI (h : H p = some (.lst (ns.map V.int)) ∨ H p = some (.tup (ns.map V.int))) (l : ns.length < 64) (q : ∀ H2 a c, Same H H2 → H a = none → c ≤ ns.length → H2 a = some (SetO w a (fun j => decide (j ∈ ns)) c) → Q (.ref a) H2) : rSetI K w [.ref p] H Q :=
  ⟨p, ns, rfl, h.imp SqL.of SqT.of, l, fun a c na hc => q _ a c (fun b u e => by rw [upd_ne (ne_of_none e na)]; exact e) na hc upd_same⟩
theorem rd_sortedI (h : H a = some (SetO w a (fun j => decide (j ∈ ns)) c)) (hc : c < 64) (q : ∀ H2 p os, Same H H2 → H p = none → H2 p = some (.lst (os.map V.int)) → Asc ns os → os.length = c → Q (.ref p) H2) : rSortedSet w [.ref a] H Q :=
  ⟨a, _, c, rfl, h, hc, fun os p pw m l np => q _ p os (fun b u e => by rw [upd_ne (ne_of_none e np)]; exact e) np upd_same ⟨pw, fun k => (m k).trans decide_eq_true_iff⟩ l⟩
end
end Rv
/-! which blocks matter -/
namespace Rv
open PySem PySem.Spec PyProof.Rows L2
theorem dp_ints2 {K : PySem.W.Frag} {H : Hp} {D : Addr} {es : List Int} (h : H D = some (.lst (es.map V.int))) : Dp K H (.ref D) (.list (es.map PyData.int)) := .lst (SqL.of h) (dp_ints es)
theorem sh_ints2 (es : List Int) : Sh 1 (.list (es.map PyData.int)) := Sh.list fun d hd => by
  obtain ⟨i, _, rfl⟩ := List.mem_map.mp hd
  exact Sh.int i
end Rv
/-! searches; what restarts from the top do -/
namespace Rv
open PySem PySem.Spec PyProof.Rows L2
section
variable {P : Type}
inductive Rch (nx : P → List P) (s : P) : P → Prop
  | refl : Rch nx s s
  | step {p q : P} (h : Rch nx s p) (m : q ∈ nx p) : Rch nx s q
/-- a search between two turns: what waits, what was met, how many were taken up -/
structure Sr (nx : P → List P) (s : P) (td seen : List P) (i : Nat) : Prop where
  nd : seen.Nodup
  st : s ∈ seen
  rc : ∀ p ∈ seen, Rch nx s p
  tds : ∀ p ∈ td, p ∈ seen
  cl : ∀ p ∈ seen, p ∈ td ∨ ∀ q ∈ nx p, q ∈ seen
  cnt : i + td.length = seen.length
/-- p was taken up, the first j of what follows were looked at -/
structure Pr (nx : P → List P) (s p : P) (td seen : List P) (i j : Nat) : Prop where
  nd : seen.Nodup
  st : s ∈ seen
  pin : p ∈ seen
  rc : ∀ p ∈ seen, Rch nx s p
  tds : ∀ p ∈ td, p ∈ seen
  cl : ∀ q ∈ seen, q ∈ td ∨ q = p ∨ ∀ r ∈ nx q, r ∈ seen
  done : ∀ (k : Nat) q, k < j → (nx p)[k]? = some q → q ∈ seen
  cnt : i + 1 + td.length = seen.length
variable {nx : P → List P} {s p q : P} {td seen : List P} {i j : Nat}
theorem Sr.all (S : Sr nx s [] seen i) (q : P) : q ∈ seen ↔ Rch nx s q := ⟨S.rc q, fun r => by
  induction r with
  | refl => exact S.st
  | step h m ih =>
    rcases S.cl _ ih with k | k
    · exact absurd k List.not_mem_nil
    · exact k _ m⟩
end
/-! from the top -/
section
variable {n : Nat} {ps : List (Int × Int)}
/-! by images -/
end
end Rv
/-! searches in the heap: what waits, tables of what was met -/
namespace Rv
open PySem PySem.Spec PyProof.Rows L2
section
variable {σ : L2.St} {H : Hp} {K : PySem.W.Frag} {Q : VK} {p : Addr} {xs : List V} {y : V} {D : Ends}
end
section
variable {H H' : Hp} {d b : Addr} {ls : List (List Int)} {es : List Int} {Q : VK} {R : Hp → Prop} {v : V}
end
/-! a table of places -/
def rowG (n k : Nat) (seen : List (Nat × Nat)) : List V := (List.range n).map fun b => V.bl (decide ((k, b) ∈ seen))
structure Grid (H : Hp) (g : Addr) (m n : Nat) (rws : List Addr) (seen : List (Nat × Nat)) : Prop where
  at_ : H g = some (.lst (rws.map V.ref))
  len : rws.length = m
  nd : rws.Nodup
  ng : g ∉ rws
  row : ∀ (k : Nat) r, rws[k]? = some r → H r = some (.lst (rowG n k seen))
section
variable {H H' : Hp} {g l : Addr} {m n k b : Nat} {rws : List Addr} {seen : List (Nat × Nat)}
end
/-! the least place that spoils -/
/-! how many come to a block -/
theorem eqv_intsL : ∀ (a b : List Int), PyData.eqv (.list (a.map PyData.int)) (.list (b.map PyData.int)) = decide (a = b)
  | [], [] => rfl
  | [], _ :: _ => rfl
  | _ :: _, [] => rfl
  | x :: r, y :: t => by
    have ih := eqv_intsL r t
    have e : PyData.eqv (.list ((x :: r).map PyData.int)) (.list ((y :: t).map PyData.int)) = (decide (x = y) && PyData.eqv (.list (r.map PyData.int)) (.list (t.map PyData.int))) := rfl
    rw [e, ih, Bool.eq_iff_iff, Bool.and_eq_true, decide_eq_true_eq, decide_eq_true_eq, decide_eq_true_eq, List.cons.injEq]
theorem rd_eqL {K : PySem.W.Frag} {H : Hp} {Q : VK} {p p2 : Addr} {xs ys : List Int} (h : H p = some (.lst (xs.map V.int))) (h2 : H p2 = some (.lst (ys.map V.int))) (q : Q (.bl (decide (xs = ys))) H) : rEqD K (.ref p) (.ref p2) H Q :=
  ⟨_, _, dp_ints2 h, dp_ints2 h2, (sh_ints2 _).shaped (by decide), (sh_ints2 _).shaped (by decide), by rw [eqv_intsL]; exact q⟩
end Rv
/-! late lines -/
namespace Rv
open PySem PySem.Spec PyProof.Rows L2
/-- the last of the first k lines that writes on b, or -1 -/
def lw (ps : List (Int × Int)) (b : Int) : Nat → Int
  | 0 => -1
  | k + 1 => match ps[k]? with
    | some p => if p.1 = b then (k : Int) else lw ps b k
    | none => lw ps b k
section
variable {n : Nat} {ps : List (Int × Int)}
/-! the same by images -/
end
end Rv
namespace Rv
open PySem PySem.Spec PyProof.Rows L2
/-! how many come to a block -/
section
variable {n k b : Nat} {ps : List (Int × Int)}
end
end Rv
/-! dicts whose keys are pairs of a number and a row of numbers -/
namespace Rv
open PySem PySem.Spec PyProof.Rows L2
section
variable {X : Cx} {pins : List (Addr × Obj)} {σ : L2.St} {H : Hp} {s : Shared} {a b : Addr} {xs : List NE} {k : NK} {A : Around} {E : Value → Shared → Prop} {Pg : Program} {wd : World}
/-! readings -/
end
section
variable {X : Cx} {o i e value : Expr} {pos pos' tpos : Pos} {td ty tv : TE} {P : Program} {w : World}
end
section
variable {σ : L2.St} {H H' : Hp} {Q : VK} {D : Ends} {P : Program} {w : World} {td ty tv : TE} {d b l : Addr} {ks : List NK} {k : NK} {v : V} {R : Hp → Prop} {o : HO}
end
end Rv
/-! a dict comprehension stored on its line; searches over places with images -/
namespace Rv
open PySem PySem.Spec PyProof.Rows L2
section
variable {X : Cx}
end
section
variable {H : Hp} {Q : VK} {p : Addr} {xs : List V} {y : V}
end
/-! places with images -/
section
variable {H H' : Hp} {as : List Addr} {ps : List (Nat × List Int)} {a : Addr} {p : Nat × List Int}
end
end Rv
namespace Rv
open PySem PySem.Spec PyProof.Rows L2
def GD (a : Addr) (y z : V) (H : Hp) (Q : VK) : Prop := ∃ o, DGet H a y o ∧ Q (o.getD z) H
theorem rd_dget2v {σ : L2.St} {H : Hp} {Q : VK} {i : Nat} {a : Addr} {kvs : List (Key × V)} {ty tx : TE} (hv : σ[i]? = some (some (.ref a))) (h : H a = some (.dK kvs)) (q : ty σ H fun y H2 => tx σ H2 fun z H3 => GD a y z H3 Q) : tDGet2 (tVar i) ty tx σ H Q :=
  ⟨.ref a, hv, a, rfl, .inl ⟨kvs, .inl h⟩, q⟩
theorem rd_GD {H : Hp} {Q : VK} {a : Addr} {kvs : List (Key × V)} {k : Int} {z : V} (h : H a = some (.dK kvs)) (q : Q ((valV kvs (Sum.inl k)).getD z) H) : GD a (.int k) z H Q := ⟨_, DGet.k (k := Sum.inl k) h, q⟩
/-- the dict of the last writes -/
structure Lw (ps : List (Int × Int)) (i : Nat) (kvs : List (Key × V)) : Prop where
  len : kvs.length ≤ i
  val : ∀ b : Int, valV kvs (Sum.inl b) = if lw ps b i < 0 then none else some (.int (lw ps b i))
end Rv
/-! from an old mark -/
namespace Rv
open PySem PySem.Spec PyProof.Rows L2
/-- block b matters at position k -/
def Mt (n : Nat) (ps : List (Int × Int)) (k : Nat) (b : Int) : Prop := b ∈ fin (own n) (ps.drop k)
section
variable {n : Nat} {ps : List (Int × Int)}
/-! the same by images -/
end
/-- what mattered so far: each block with the least position -/
structure Mm (n : Nat) (ps : List (Int × Int)) (j : Nat) (kvs : List (Key × V)) : Prop where
  len : kvs.length ≤ j * 12
  some_ : ∀ (b : Int) v, valV kvs (Sum.inl b) = some v → ∃ k : Nat, v = .int k ∧ k < j ∧ Mt n ps k b ∧ ∀ k', k' < k → ¬ Mt n ps k' b
  none_ : ∀ b : Int, valV kvs (Sum.inl b) = none → ∀ k, k < j → ¬ Mt n ps k b
def SD (a : Addr) (y z : V) (H : Hp) (Q : VK) : Prop := ∃ (kvs : List (Key × V)) (k : Key), H a = some (.dK kvs) ∧ y = kV k ∧ kvs.length < sizeLine ∧ (∀ v, valV kvs k = some v → Q v H) ∧ (valV kvs k = none → Q z (upd H a (.dK (putK kvs k z))))
theorem rd_setdv {σ : L2.St} {H : Hp} {Q : VK} {i : Nat} {a : Addr} {kvs : List (Key × V)} {ty tx : TE} (hv : σ[i]? = some (some (.ref a))) (h : H a = some (.dK kvs)) (q : ty σ H fun y H2 => tx σ H2 fun z H3 => SD a y z H3 Q) : tDSetd (tVar i) ty tx σ H Q :=
  ⟨.ref a, hv, a, rfl, .inl ⟨kvs, .inl h⟩, q⟩
theorem rd_SD {H : Hp} {Q : VK} {a : Addr} {kvs : List (Key × V)} {k : Int} {z : V} (h : H a = some (.dK kvs)) (hl : kvs.length < 1000) (q1 : ∀ v, valV kvs (Sum.inl k) = some v → Q v H) (q2 : valV kvs (Sum.inl k) = none → Q z (upd H a (.dK (putK kvs (Sum.inl k) z)))) : SD a (.int k) z H Q := ⟨kvs, Sum.inl k, h, rfl, small1000 (by omega), q1, q2⟩
/-- the same while the blocks os that matter at i are gone through -/
structure Mi (n : Nat) (ps : List (Int × Int)) (i : Nat) (os : List Int) (j : Nat) (kvs : List (Key × V)) : Prop where
  len : kvs.length ≤ i * 12 + j
  some_ : ∀ (b : Int) v, valV kvs (Sum.inl b) = some v → (∃ k : Nat, v = .int k ∧ k < i ∧ Mt n ps k b ∧ ∀ k', k' < k → ¬ Mt n ps k' b) ∨ (v = .int i ∧ b ∈ os ∧ ∀ k, k < i → ¬ Mt n ps k b)
  none_ : ∀ b : Int, valV kvs (Sum.inl b) = none → (∀ k, k < i → ¬ Mt n ps k b) ∧ b ∉ os.take j
section
variable {n i j : Nat} {ps : List (Int × Int)} {os : List Int} {kvs : List (Key × V)}
end
/-- the tables of what matters, from position j on -/
structure Tb (H : Hp) (n : Nat) (ps : List (Int × Int)) (j : Nat) (ts : List Addr) : Prop where
  len : ts.length + j = ps.length + 1
  at_ : ∀ i, i + j ≤ ps.length → ∃ (a : Addr) (os : List Int), ts[i]? = some a ∧ H a = some (.lst (os.map V.int)) ∧ os.length + (j + i) ≤ 12 + ps.length ∧ ∀ x, x ∈ os ↔ Mt n ps (j + i) x
end Rv
/-! set comprehensions whose elements are whole numbers -/
namespace Rv
open PySem PySem.Spec PyProof.Rows L2 PpSet
section
variable {X : Cx}
/-- one turn's end: the element goes into the set at d -/
def Put1 (w : World) (d : Addr) (Nx : Hp → Prop) : VK := fun y G => ∃ (k : Int) (S : Int → Bool) (c : Nat), y = .int k ∧ G d = some (SetO w d S c) ∧ c + 1 < scanBound ∧
  Nx (upd G d (SetO w d (fun j => S j || decide (j = k)) (if S k = true then c else c + 1)))
def Si (w : World) (J : It) (g : TG) (tt : TT) (te : TE) (vs : List Nat) (σ : L2.St) (G0 : Hp) (Q : VK) : Prop :=
  ∀ d, G0 d = none → ∃ W : Nat → Nat → Hp → Prop, (∃ m, W 0 m (upd G0 d (SetO w d (fun _ => false) 0))) ∧ ∀ i m G, W i m G →
    (J.stop i G ∧ Q (.ref d) G) ∨ (J.go i G ∧ ∃ Nx : Hp → Prop, (∀ G', Nx G' → ∃ m', m' < m ∧ W (i + 1) m' G') ∧
      ∀ x G', J.yld i G x G' → g x (wipe σ vs) G' fun σ2 G2 => wipe σ2 vs = wipe σ vs ∧ tt σ2 G2 fun b G3 => if b = true then te σ2 G3 (Put1 w d Nx) else Nx G3)
def tSi (w : World) (wi : TI) (g : TG) (tt : TT) (te : TE) (vs : List Nat) : TE := fun σ H Q => wi σ H fun J G => Si w J g tt te vs σ G Q
abbrev bare (w : World) : Obj := { cls := .type "set", dict := none, data := .set #[] 0 (.fresh 0 0 (!w.params.followText "set-order")) }
theorem put_int {pins : List (Addr × Obj)} {σ : L2.St} {G : Hp} {s : Shared} {E : Value → Shared → Prop} {d : Addr} {Nx : Hp → Prop} {y : V} {u : Value} {Q : Value → Shared → Prop} (I : Inv X pins σ G s) (ry : RelV y u) (h : Put1 X.w d Nx y G)
    (q : ∀ s' G', Inv X pins σ G' s' → Nx G' → Q .none s') : wpAny (model X.prog X.w) X.A (call (.builtin "set.add") [.ref d, u]) Q E s := by
  obtain ⟨k, S, c, rfl, hd, room, nx⟩ := h
  obtain ⟨tk, rfl⟩ := ry
  refine setR_add (setO_get I hd) room fun h' sb new => q _ _ ?_ nx
  refine I.write (e := d) (t' := s.toks + 1) ?_ (.inl rfl) (fun b o hb ho => (sb.2 b hb).trans ho) ?_ (setO_new new)
  · rw [hd]
    trivial
  · obtain ⟨o, _, _, _, ho, _⟩ := new
    exact ⟨o, ho⟩
variable {elt tg iter : Expr} {ifs : List Expr} {scope : Scope} {own : List (PySem.Str × Nat)} {pos : Pos} {wi : TI} {g : TG} {tt : TT} {te : TE} {w : World}
theorem pe_si (hw : X.w = w) (calm : X.calm = true) (nd : X.N.Nodup) (hi : PI X tg iter wi) (ok : BlkOk X.N X.env.scope scope own)
    (hg : ∀ (s : Shared) (H : Hp) (C : Addr) (cl : List (PySem.Str × Addr)) (fp : List Addr), PG (X.blk s H scope (compEnvC scope cl C X.env) fp) tg g)
    (ht : ∀ (s : Shared) (H : Hp) (C : Addr) (cl : List (PySem.Str × Addr)) (fp : List Addr), PTs (X.blk s H scope (compEnvC scope cl C X.env) fp) ifs tt)
    (he : ∀ (s : Shared) (H : Hp) (C : Addr) (cl : List (PySem.Str × Addr)) (fp : List Addr), PE (X.blk s H scope (compEnvC scope cl C X.env) fp) elt te)
    (fold : ∀ x, foldedSetIterable iter X.env x = pure x := by intro _; rfl) :
    PE X (.SetComp elt [⟨tg, iter, ifs, 0⟩] scope pos) (tSi w wi g tt te (own.map (·.2))) := by
  subst hw
  refine ⟨fun pins s0 σ H Q I0 want => ?_⟩
  rw [eval_SetComp]
  have caught : ∀ y ∈ scope.names, y.2 = .free → ∃ c, X.env.cells.lookup y.1 = some c := fun y hy e => (ok.free y hy e).elim (fun z => I0.ok.has _ (.inl z)) fun z => I0.ok.has _ (.inr z)
  refine wpAny_comprehension_free rfl fold (closure_ok caught) ok.kind (fun y hy e => by rw [ok.uniq y hy, e]) (thn (hi.run pins s0 σ H _ I0 want) fun _ s1 found => thn found fun _ s2 got => ?_)
  obtain ⟨it, fp, tn, J, G0, rfl, I2, T, here, seat, want2⟩ := got
  refine newSet_ok (newEnv_comp ?_)
  obtain ⟨d, ed⟩ : ∃ d, d = s2.heap.objs.size := ⟨_, rfl⟩
  have free_d : G0 d = none := I2.hok.fresh (Nat.le_of_eq ed.symm)
  obtain ⟨W, ⟨m0, w0⟩, turn⟩ := want2 d free_d
  obtain ⟨G1, eG1⟩ : ∃ G1, G1 = upd G0 d (SetO X.w d (fun _ => false) 0) := ⟨_, rfl⟩
  rw [← eG1] at w0
  obtain ⟨s3, es3⟩ : ∃ s3 : Shared, s3 = { s2 with heap := s2.heap.push (bare X.w) } := ⟨_, rfl⟩
  have hp3 : s3.heap = s2.heap.push (bare X.w) := by rw [es3]
  have kept3 : ∀ b o, s2.heap.get? b = some o → s3.heap.get? b = some o := fun b o e => by rw [hp3]; exact Heap.get?_push_of_some _ e
  have I3 : Inv X pins σ G1 s3 := by
    rw [es3, eG1]
    refine I2.laid (t' := s2.toks) (fun b o e => Heap.get?_push_of_some _ e) (Nat.le_of_eq ed.symm) ?_
    rw [ed]
    exact setO_new (setR_fresh X.w)
  have low : ∀ b ∈ fp, b < s2.heap.objs.size := fun b hb => (T.obj _ _ here b hb).elim fun o k => Heap.lt_size k.1
  have seat3 : ∀ b ∈ fp, FpOk X pins G1 b ∧ b < s3.heap.objs.size := fun b hb => by
    refine ⟨⟨?_, (seat b hb).2⟩, ?_⟩
    · rw [eG1, upd_ne (by rw [ed]; exact Nat.ne_of_lt (low b hb))]
      exact (seat b hb).1
    · rw [hp3, Heap.size_push]
      exact Nat.lt_succ_of_lt (low b hb)
  have here3 : tn 0 s3.heap := T.keep _ _ _ here fun b _ o e => kept3 b o e
  have I4 := block_start I3 ok nd seat3
  obtain ⟨cs, ecs⟩ : ∃ cs, cs = cellsFrom (s3.heap.objs.size + 1) scope.names (cloFrom X.env.cells scope.names []) := ⟨_, rfl⟩
  have pg := hg s3 G1 s3.heap.objs.size cs fp
  have pt := ht s3 G1 s3.heap.objs.size cs fp
  have pe := he s3 G1 s3.heap.objs.size cs fp
  rw [← ecs] at I4
  obtain ⟨ce, ece⟩ : ∃ ce, ce = compEnvC scope cs s3.heap.objs.size X.env := ⟨_, rfl⟩
  have locs : ce.locals = s3.heap.objs.size := by rw [ece]; rfl
  rw [← ece] at I4 pg pt pe
  obtain ⟨s4, es4⟩ : ∃ s4 : Shared, s4 = { s3 with heap := pushCells (s3.heap.push { cls := .type "dict", data := .dict #[] }) scope.names } := ⟨_, rfl⟩
  rw [← es4] at I4
  have here4 : tn 0 s4.heap := T.keep _ _ _ here3 fun b _ o e => by rw [es4]; exact pushCells_keeps _ _ _ _ (Heap.get?_push_of_some _ e)
  have none3 : ∀ b ∈ fp, G1 b = none := fun b hb => (seat3 b hb).1.1
  generalize hR : (compPost (model X.prog X.w) X.A X.xe none (EP X pins σ Q) (.ref d) s3.heap.objs.size : Result → Shared → Prop) = R
  suffices loop : codeAny (model X.prog X.w) X.A (.compLoop (.SetComp elt [⟨tg, iter, ifs, 0⟩] scope pos) 0 (.ref it) (.ref d) ce) R s4 by
    have start := codeAny_compStart_set loop (T.self X.A 0 _ _ _ here4 loop)
    rw [← hR, es4, ece, ecs, es3, ed] at start
    exact start
  have pinned : ∀ {σ' : L2.St} {G' : Hp} {s' : Shared}, Inv (X.blk s3 G1 scope ce fp) [] σ' G' s' → (∀ b ∈ fp, G' b = none) → ∀ b ∈ fp, FpOk (X.blk s3 G1 scope ce fp) [] G' b := fun I' hn b hb =>
    ⟨hn b hb, (I'.ok.exf b hb).1, I'.ok.exfs b hb, .inl hb, fun x c e => (I'.ok.exf b hb).2 x c e, fun p hp => absurd (show p ∈ ([] : List (Addr × Obj)) ++ [] from hp) (by simp)⟩
  subst hR
  refine compLoopS_any (fun n t => ∃ i G, Inv (X.blk s3 G1 scope ce fp) [] (wipe σ (own.map (·.2))) G t ∧ tn i t.heap ∧ (∀ b ∈ fp, G b = none) ∧ W i n G) ?_ m0 ⟨0, G1, I4, here4, none3, w0⟩
  rintro n s5 ⟨i, G5, I5, here5, none5, w5⟩
  rcases turn i n G5 w5 with ⟨stop, over⟩ | ⟨go, Nx, next, step⟩
  · refine thnF (T.done (X.blk s3 G1 scope ce fp) rfl rfl rfl calm i [] s5 _ G5 (fun _ _ => False) I5 (pinned I5 none5) here5 stop) fun r s6 fin => ?_
    obtain ⟨rfl, I6⟩ := fin
    have J6 : Inv X pins σ G5 s6 := I3.call' (ch := fp) I6.os I6.base I6.hok I6.bare fun b hb => by
      obtain ⟨⟨_, a1, a2, a3, a4, a5⟩, _⟩ := seat3 b hb
      exact ⟨a3, a1, a4, a5⟩
    obtain ⟨mm, named, _⟩ := I6.loc
    have named : s6.heap.Ns ce.locals mm := named
    have gone : G5 ce.locals = none := I6.free
    rw [locs] at named gone
    obtain ⟨b0, b1, b2, b3, b4, b5⟩ := I3.fpOk (Nat.le_refl _) gone
    refine ⟨mm, named, fun hh sb => ?_⟩
    exact ⟨.ref d, G5, J6.turned (t' := s6.toks) (fun b o hb e => (sb.2 b hb).trans e) b0 b1 b3 b4 b5, rfl, over⟩
  · refine thnF (T.item (X.blk s3 G1 scope ce fp) rfl rfl rfl calm i [] s5 _ G5 (fun _ _ => False) I5 (pinned I5 none5) here5 go) fun r s6 item => ?_
    obtain ⟨u, rfl, item⟩ := item
    refine thnF item fun _ s7 ⟨x, G7, I7, rx, yx, here7, none7⟩ => ?_
    have P7 := I7.pinned (pinned I7 none7) (T.obj _ _ here7)
    refine thnF (pg.run _ s7 _ G7 x u _ P7 rx (step x G7 yx)) fun _ s8 ⟨σ8, G8, I8, same8, want8⟩ => ?_
    refine thnF (pt.run _ s8 σ8 G8 _ I8 want8) fun b s9 ⟨G9, I9, want9⟩ => ?_
    have close : ∀ (t : Shared) (G' : Hp), Inv (X.blk s3 G1 scope ce fp) ([] ++ pinsAt fp s7.heap) σ8 G' t → Nx G' → ∃ m, m < n ∧ ∃ i G, Inv (X.blk s3 G1 scope ce fp) [] (wipe σ (own.map (·.2))) G t ∧ tn i t.heap ∧ (∀ b ∈ fp, G b = none) ∧ W i m G := fun t G' I' nx => by
      obtain ⟨m', less, wn⟩ := next G' nx
      have still : ∀ b ∈ fp, ∀ o, s7.heap.get? b = some o → t.heap.get? b = some o ∧ G' b = none := fun b hb o e => by
        have k := I'.pin (b, o) (List.mem_append_right _ (List.mem_append_right _ (mem_pinsAt hb e)))
        exact ⟨k.1, k.2.1⟩
      have len : (wipe σ (own.map (·.2))).length = σ8.length := (congrArg List.length same8).symm.trans (wipe_length ..)
      refine ⟨m', less, i + 1, G', (I'.unpinned (pins := [])).weak len fun j v e => ?_, T.keep _ _ _ here7 fun b hb o e => (still b hb o e).1, fun b hb => ?_, wn⟩
      · rw [← same8] at e
        exact (wipe_some e).1
      · exact (T.obj _ _ here7 b hb).elim fun o k => (still b hb o k.1).2
    cases b with
    | false => exact close s9 G9 I9 want9
    | true => exact thnF (pe.run _ s9 σ8 G9 _ I9 want9) fun u s10 ⟨y, G10, I10, ry, add⟩ => put_int (X := X.blk s3 G1 scope ce fp) I10 ry add fun s11 G11 I11 nx => close s11 G11 I11 nx
end
theorem rd_si {w : World} {wi : TI} {g : TG} {tt : TT} {te : TE} {vs : List Nat} {σ : L2.St} {H : Hp} {Q : VK} (q : wi σ H fun J G => Si w J g tt te vs σ G Q) : tSi w wi g tt te vs σ H Q := q
/-- Pv tells what was put in so far, in order, perhaps twice -/
theorem si_it {w : World} {J : It} {n : Nat} {G : Hp → Prop} {Y : Nat → Hp → V → Hp → Prop} (wk : Walk J n G Y) {g : TG} {tt : TT} {te : TE} {vs : List Nat} {σ : L2.St} {H0 : Hp} {Q : VK} (Pv : Nat → List Int → Prop) (p0 : Pv 0 []) (sm : ∀ i ks, i ≤ n → Pv i ks → ks.length < 1000) (hG : ∀ H, Same H0 H → G H)
    (hs : ∀ i x H H' ks (Qc : VK) (R : Hp → Prop), i < n → Same H0 H → Pv i ks → Y i H x H' → (∀ k H5, Same H H5 → Pv (i + 1) (ks ++ [k]) → Qc (.int k) H5) → (∀ H3, Same H H3 → Pv (i + 1) ks → R H3) →
      g x (wipe σ vs) H' fun σ2 H2 => wipe σ2 vs = wipe σ vs ∧ tt σ2 H2 fun b H3 => if b = true then te σ2 H3 Qc else R H3)
    (hd : ∀ H d ks c, Same H0 H → H0 d = none → c ≤ ks.length → H d = some (SetO w d (fun j => decide (j ∈ ks)) c) → Pv n ks → Q (.ref d) H) : Si w J g tt te vs σ H0 Q := fun d nd => by
  refine ⟨fun i m H => m = n - i ∧ i ≤ n ∧ Same H0 H ∧ ∃ ks c, c ≤ ks.length ∧ H d = some (SetO w d (fun j => decide (j ∈ ks)) c) ∧ Pv i ks, ⟨n, rfl, Nat.zero_le _, same_new (Same.refl _) nd, [], 0, Nat.le_refl _, ?_, p0⟩, ?_⟩
  · rw [upd_same]
    rfl
  rintro i m H ⟨rfl, hi, S, ks, c, hc, hD, p⟩
  have gG := hG H S
  by_cases hlt : i < n
  · refine .inr ⟨wk.goes i H hlt gG, fun H' => i < n ∧ Same H0 H' ∧ ∃ ks c, c ≤ ks.length ∧ H' d = some (SetO w d (fun j => decide (j ∈ ks)) c) ∧ Pv (i + 1) ks, fun H' p' => ⟨n - (i + 1), by omega, rfl, hlt, p'.2⟩, fun x H' y => ?_⟩
    refine hs i x H H' ks _ _ hlt S p (wk.yields i H x H' hlt gG y) (fun k H5 S5 pz => ?_) (fun H3 S3 pz => ⟨hlt, S.trans S3, ks, c, hc, S3 _ _ hD, pz⟩)
    have l := sm i ks hi p
    refine ⟨k, _, c, rfl, S5 _ _ hD, by unfold scanBound; omega, hlt, same_mut (S.trans S5) nd, ks ++ [k], (if decide (k ∈ ks) = true then c else c + 1), ?_, ?_, pz⟩
    · rw [List.length_append, List.length_singleton]
      split <;> omega
    · rw [upd_same]
      congr 2
      funext j
      rw [Bool.eq_iff_iff, Bool.or_eq_true, decide_eq_true_eq, decide_eq_true_eq, decide_eq_true_eq, List.mem_append, List.mem_singleton]
  · have e : i = n := by omega
    subst e
    exact .inl ⟨wk.stops H gG, hd H d ks c S nd hc hD p⟩
end Rv
/-! another box of draws; images that may be wrong; replacing -/
namespace Rv
open PySem PySem.Spec PyProof.Rows L2
def bgL (b c : Addr) (ns : List Int) (n : b ≠ c) : Box where
  b := b
  m := [b]
  fp := [b, c]
  I H := H c = some (.lst (ns.map V.int)) ∧ ∃ i bu se cn : Int, H b = some (.lst [.ref c, .int i, .int bu, .int se, .int cn]) ∧ 0 ≤ i
  sub a ha := by
    rw [List.mem_singleton.mp ha]
    exact List.mem_cons_self ..
  live H i a ha := by
    obtain ⟨h1, _, _, _, _, h2, _⟩ := i
    rcases List.mem_cons.mp ha with rfl | k
    · exact ⟨_, h2⟩
    · rw [List.mem_singleton.mp k]
      exact ⟨_, h1⟩
  frame H H' i k := by
    obtain ⟨h1, a1, a2, a3, a4, h2, h3⟩ := i
    exact ⟨by rw [k c (by simp)]; exact h1, a1, a2, a3, a4, by rw [k b (by simp)]; exact h2, h3⟩
def IsBag (B : Box) : Prop := ∃ b c ns n, B = bgL b c ns n
theorem bgL_put {b c : Addr} {ns : List Int} {n : b ≠ c} {H0 H : Hp} {i bu se cn : Int} (w : Wg (bgL b c ns n) H0 H) (h0 : 0 ≤ i) : Wg (bgL b c ns n) H0 (upd H b (.lst [.ref c, .int i, .int bu, .int se, .int cn])) :=
  ⟨fun a o ha e => by
    have nb : a ≠ b := fun z => ha (by rw [z]; exact List.mem_singleton.mpr rfl)
    rw [upd_ne nb]
    exact w.keep a o ha e, w.i0, by
    obtain ⟨h1, _⟩ := w.i1
    exact ⟨by rw [upd_ne n.symm]; exact h1, i, bu, se, cn, upd_same, h0⟩⟩
/-! tuples put together -/
section
variable {H : Hp} {K : PySem.W.Frag} {Q : VK} {a b : Addr} {xs ys : List V} {lo hi : Option Int}
theorem rd_slT (h : H a = some (.tup xs)) (no : ¬ (HT.sIx xs.length 0 lo = 0 ∧ HT.sIx xs.length xs.length hi = xs.length)) (q : NewL (.tup (cutV xs lo hi)) Q H) : rSlT K (.ref a) lo hi H Q := ⟨a, xs, rfl, SqT.of h, no, q⟩
theorem rd_sorted {ns : List Int} (h : H a = some (.lst (ns.map V.int))) (l : ns.length < 64) (q : ∀ (H2 : Hp) (p : Addr) (os : List Int), Same H H2 → H p = none → H2 p = some (.lst (os.map V.int)) → os.Perm ns → os.Pairwise (· ≤ ·) → Q (.ref p) H2) : rSorted K [.ref a] H Q :=
  ⟨a, ns, rfl, SqL.of h, l, fun os p pm pw np => q _ p os (fun c u e => by rw [upd_ne (ne_of_none e np)]; exact e) np upd_same pm pw⟩
end
/-! images that may be wrong -/
/-! anchors -/
def KeptB (es fs : List Int) (b : Nat) (x : Int) : Prop := es.getD b 0 = x ∧ fs.getD b 0 = x
instance (es fs : List Int) (b : Nat) (x : Int) : Decidable (KeptB es fs b x) := inferInstanceAs (Decidable (_ ∧ _))
/-- the least of the first blocks that is kept and holds x -/
def fk (es fs : List Int) (x : Int) : Nat → Int
  | 0 => -1
  | k + 1 => if 0 ≤ fk es fs x k then fk es fs x k else if KeptB es fs k x then (k : Int) else -1
def an (es fs : List Int) (x : Int) : Int := if x < 0 then -1 else fk es fs x fs.length
def anL (es fs : List Int) : List Int := fs.map (an es fs)
def looseL (es fs : List Int) : List Int := fs.filter fun x => decide (0 ≤ x ∧ an es fs x < 0)
section
variable {es fs : List Int} {x : Int}
theorem fk_bound : ∀ k, fk es fs x k = -1 ∨ (0 ≤ fk es fs x k ∧ fk es fs x k < k ∧ KeptB es fs (fk es fs x k).toNat x)
  | 0 => .inl rfl
  | k + 1 => by
    have ih := fk_bound k
    have e : fk es fs x (k + 1) = if 0 ≤ fk es fs x k then fk es fs x k else if KeptB es fs k x then (k : Int) else -1 := rfl
    rw [e]
    by_cases z : 0 ≤ fk es fs x k
    · rw [if_pos z]
      rcases ih with h | ⟨h1, h2, h3⟩
      · omega
      · exact .inr ⟨h1, by omega, h3⟩
    · rw [if_neg z]
      by_cases y : KeptB es fs k x
      · rw [if_pos y]
        exact .inr ⟨by omega, by omega, by rw [Int.toNat_natCast]; exact y⟩
      · rw [if_neg y]
        exact .inl rfl
theorem an_of : an es fs x = -1 ∨ (0 ≤ an es fs x ∧ an es fs x < fs.length ∧ 0 ≤ x ∧ KeptB es fs (an es fs x).toNat x) := by
  unfold an
  by_cases z : x < 0
  · rw [if_pos z]
    exact .inl rfl
  · rw [if_neg z]
    rcases fk_bound (es := es) (fs := fs) (x := x) fs.length with h | ⟨h1, h2, h3⟩
    · exact .inl h
    · exact .inr ⟨h1, h2, by omega, h3⟩
/-- the dict of the kept ones -/
structure Kp (es fs : List Int) (i : Nat) (kvs : List (Key × V)) : Prop where
  len : kvs.length ≤ i
  val : ∀ x : Int, valV kvs (Sum.inl x) = if x < 0 ∨ fk es fs x i < 0 then none else some (.int (fk es fs x i))
theorem Kp.nil : Kp es fs 0 [] := ⟨Nat.le_refl _, fun x => by
  rw [if_pos (.inr (by show (-1 : Int) < 0; decide))]
  rfl⟩
theorem fk_next (x : Int) (i : Nat) : fk es fs x (i + 1) = if 0 ≤ fk es fs x i then fk es fs x i else if KeptB es fs i x then (i : Int) else -1 := rfl
theorem fk_skip {i : Nat} (h : ¬ KeptB es fs i x) : fk es fs x (i + 1) = fk es fs x i := by
  rw [fk_next, if_neg h]
  rcases fk_bound (es := es) (fs := fs) (x := x) i with e | ⟨e, _⟩
  · rw [e]
    rfl
  · rw [if_pos e]
/-- nothing is put in: block i is empty or not kept -/
theorem Kp.skip {i : Nat} {kvs : List (Key × V)} (k : Kp es fs i kvs) (h : ∀ x, 0 ≤ x → ¬ KeptB es fs i x) : Kp es fs (i + 1) kvs := ⟨by have := k.len; omega, fun x => by
  rw [k.val x]
  by_cases z : x < 0
  · rw [if_pos (.inl z), if_pos (.inl z)]
  · rw [fk_skip (h x (by omega))]⟩
theorem Kp.put {i : Nat} {kvs : List (Key × V)} {y : Int} (k : Kp es fs i kvs) (h : KeptB es fs i y) (h0 : 0 ≤ y) (e : valV kvs (Sum.inl y) = none) : Kp es fs (i + 1) (putK kvs (Sum.inl y) (.int i)) := ⟨by
    have := putK_len1 kvs (Sum.inl y) (.int i)
    have := k.len
    omega, fun x => by
  have ey := k.val y
  rw [e] at ey
  have fy : fk es fs y i < 0 := by
    by_cases z : y < 0 ∨ fk es fs y i < 0
    · omega
    · rw [if_neg z] at ey
      cases ey
  rw [valV_put]
  by_cases z : x = y
  · subst z
    have e2 : fk es fs x (i + 1) = (i : Int) := by rw [fk_next, if_neg (by omega), if_pos h]
    rw [if_pos rfl, e2, if_neg (by omega)]
  · have ne : ¬ KeptB es fs i x := fun w => z (w.1.symm.trans h.1)
    rw [if_neg (fun w => z (Sum.inl.inj w)), k.val x, fk_skip ne]⟩
theorem Kp.old {i : Nat} {kvs : List (Key × V)} {y : Int} {v : V} (k : Kp es fs i kvs) (h : KeptB es fs i y) (e : valV kvs (Sum.inl y) = some v) : Kp es fs (i + 1) kvs := ⟨by have := k.len; omega, fun x => by
  by_cases z : x = y
  · subst z
    rw [k.val x] at e
    by_cases w : x < 0 ∨ fk es fs x i < 0
    · rw [if_pos w] at e
      cases e
    · have e2 : fk es fs x (i + 1) = fk es fs x i := by rw [fk_next, if_pos (by omega)]
      rw [e2, k.val x]
  · have ne : ¬ KeptB es fs i x := fun w => z (w.1.symm.trans h.1)
    rw [k.val x, fk_skip ne]⟩
theorem Kp.get {kvs : List (Key × V)} (k : Kp es fs fs.length kvs) (x : Int) : (valV kvs (Sum.inl x)).getD (.int (-1)) = .int (an es fs x) := by
  rw [k.val x]
  unfold an
  by_cases z : x < 0
  · rw [if_pos (.inl z), if_pos z]
    rfl
  · rw [if_neg z]
    rcases fk_bound (es := es) (fs := fs) (x := x) fs.length with e | ⟨e, _⟩
    · rw [e, if_pos (.inr (by decide))]
      rfl
    · rw [if_neg (by omega)]
      rfl
end
/-! the lines -/
def chg (es fs : List Int) (n : Nat) : List Nat := (List.range n).filter fun b => !decide (es.getD b 0 = fs.getD b 0)
def wrV (p : Int × Int) : List V := if p.2 = -1 then [.str sClear, .int p.1, .int (-1), .str (txt [])] else [.str sCopy, .int p.1, .int p.2, .str (txt [])]
/-- the first m of the blocks that change have changed -/
structure Half (es fs hs : List Int) (m : Nat) : Prop where
  len : hs.length = fs.length
  at_ : ∀ b, b < fs.length → hs.getD b 0 = if b ∈ (chg es fs fs.length).take m then fs.getD b 0 else es.getD b 0
section
variable {es fs hs : List Int} {m : Nat}
end
end Rv
namespace Rv
open PySem PySem.Spec PyProof.Rows L2
section
variable {σ : L2.St} {H : Hp} {K : PySem.W.Frag} {p : Addr} {xs : List V} {QB : Bool → Hp → Prop} {Q : VK}
theorem rd_truTv {i : Nat} (hv : σ[i]? = some (some (.ref p))) (h : H p = some (.tup xs)) (q : QB (!xs.isEmpty) H) : tTruQ K (tVar i) σ H QB := ⟨_, hv, _, .inr (.inl ⟨xs, SqT.of h, rfl⟩), q⟩
end
end Rv
namespace Rv
open PySem PySem.Spec PyProof.Rows L2
/-- // by a positive divisor of some length -/
def CDivV (_ j : Int) : Prop := 0 < j ∧ j ≤ 10 ^ 30
theorem op_fdivV {X : Cx} : OpR X (binaryOp .FloorDiv) (rI CDivV fun i j => .int (i.fdiv j)) := opI fun _ j _ _ _ _ _ hc q => by
  obtain ⟨h0, h1⟩ := hc
  refine floordiv_int (by omega) q (.inl (PyProof.noPylong_of_log2 ?_))
  have z : j.natAbs < 2 ^ 100 := by omega
  have y := (Nat.log2_lt (n := j.natAbs) (k := 100) (by omega)).mpr z
  omega
end Rv
/-! list(zip(a, b)) of two tuples: the pairs stand in the list, so each turn makes a new one -/
namespace Rv
open PySem PySem.Spec PyProof.Rows L2 RZ
section
variable {prog : Program} {w : World} {A : Around} {E : Value → Shared → Prop} {s : Shared}
abbrev ZAt (h : Heap) (z TI TO : Addr) (f0 : Value) (fl : Bool) : Prop :=
  h.get? z = some { cls := .type "zip", dict := none, data := .fields #[f0, .bool fl, .bool false, .ref TI, .ref TO], slots := #[] }
theorem zl_free {z TI TO T : Addr} {fl : Bool} {o : Obj} {Q : Bool → Shared → Prop} (hz : ZAt s.heap z TI TO (rawInt T) fl) (hT : s.heap.get? T = some o)
    (hQ : ∀ h', ZAt h' z TI TO (rawInt T) true → Heap.SameBut z s.heap h' → Q false { s with heap := h' }) :
    wpAny (model prog w) A (Builtin.SmallTypes.ownedTupleIsFree (.ref z)) Q E s := by
  unfold Builtin.SmallTypes.ownedTupleIsFree
  refine wpAny_bind (wpAny_field hz rfl (x := rawInt T) rfl ?_)
  show wpAny _ _ (loadIfAlive ((T : Int).toNat) >>= _) _ _ _
  rw [Int.toNat_natCast]
  refine wpAny_bind (PySem.W.kdx_alive hT ?_)
  simp only [Option.isNone_some, Bool.false_eq_true, if_false]
  refine wpAny_bind (wpAny_field hz rfl (x := .bool fl) rfl ?_)
  cases fl with
  | true =>
    rw [if_neg (show ¬ ((Value.bool true != Value.bool true) = true) from Bool.false_ne_true)]
    exact wpAny_pure (hQ _ hz (Heap.SameBut.refl _ _))
  | false =>
    rw [if_pos (show (Value.bool false != Value.bool true) = true from rfl)]
    exact wpAny_bind (wpAny_setField_rec hz (by simp) fun h3 hz3 hs3 => wpAny_pure (hQ h3 hz3 hs3))
theorem zl_item {z TI TO T i1 i2 l1 l2 : Addr} {k1 k2 : Nat} {xs ys : Array Value} {x y : Value} {fl : Bool} {o : Obj} {Q : Option Value → Shared → Prop} (D : ZipApart z TI TO i1 i2 l1 l2)
    (hz : ZAt s.heap z TI TO (rawInt T) fl) (hTo : s.heap.get? T = some o) (hTI : IsPair s.heap TI (.ref i1) (.ref i2))
    (h1 : s.heap.IsTupleIter i1 l1 k1) (h2 : s.heap.IsTupleIter i2 l2 k2) (hl1 : s.heap.IsTuple l1 xs) (hl2 : s.heap.IsTuple l2 ys) (hx : xs[k1]? = some x) (hy : ys[k2]? = some y)
    (hQ : ∀ h', ZAt h' z TI TO (rawInt T) true → h'.IsTupleIter i1 l1 (k1 + 1) → h'.IsTupleIter i2 l2 (k2 + 1) → IsPair h' s.heap.objs.size x y →
      (∀ c o, c ≠ z → c ≠ i1 → c ≠ i2 → s.heap.get? c = some o → h'.get? c = some o) → Q (some (.ref s.heap.objs.size)) { s with heap := h' }) :
    wpAny (model prog w) A (pyNext (.ref z)) Q E s := by
  have hT : s.TypeIs (.ref z) "zip" := ⟨_, hz, rfl⟩
  unfold pyNext
  refine wpAny_bind (wpAny_attempt (wpAny_callSpecial?_slot (name := Str.ofString "__next__") hT F.slot_zip_next (wpAny_call_entry F.slot_zip_next hT F.entry_zip_next ?_ (F.args_zip_next_1 _))))
  show wpAny _ _ (field (.ref z) 2 >>= _) _ _ _
  refine wpAny_bind (wpAny_field hz rfl (x := .bool false) rfl ?_)
  show wpAny _ _ (field (.ref z) 3 >>= _) _ _ _
  refine wpAny_bind (wpAny_field hz rfl (x := .ref TI) rfl ?_)
  refine wpAny_bind (wpAny_seqItems hTI rfl ?_)
  show wpAny _ _ (Builtin.SmallTypes.ownedTupleIsFree (.ref z) >>= _) _ _ _
  refine wpAny_bind (zl_free hz hTo fun g hzg sg => ?_)
  simp only [Bool.false_eq_true, if_false]
  refine wpAny_bind ?_
  first
  | rw [List.forIn_toArray]
  | (rw [← Array.forIn_toList]; simp only [List.toList_toArray])
  | rw [← Array.forIn_toList]
  simp only [List.forIn_cons, List.forIn_nil]
  refine wpAny_bind (wpAny_bind (wpAny_holding ?_))
  show wpAny _ _ (Builtin.SmallTypes.nextOf (.ref i1) >>= _) _ _ _
  have g1 := h1.extBut sg.extBut D.i1z
  have g2 := h2.extBut sg.extBut D.i2z
  have gl1 := hl1.extBut sg.extBut D.l1z
  have gl2 := hl2.extBut sg.extBut D.l2z
  refine wpAny_bind (nextOf_tuple_item g1 gl1 hx fun h₂ h1₂ hs₂ => wpAny_pure (wpAny_pure ?_))
  refine wpAny_bind (wpAny_bind (wpAny_holding ?_))
  show wpAny _ _ (Builtin.SmallTypes.nextOf (.ref i2) >>= _) _ _ _
  refine wpAny_bind (nextOf_tuple_item (g2.extBut hs₂.extBut D.i12.symm) (gl2.extBut hs₂.extBut D.l2i1) hy fun h₃ h2₃ hs₃ => wpAny_pure (wpAny_pure (wpAny_pure ?_)))
  show wpAny _ _ (newTuple [x, y] >>= _) _ _ _
  refine wpAny_bind (wpAny_newTuple ?_)
  have hsz : h₃.objs.size = s.heap.objs.size := by rw [hs₃.1, hs₂.1, sg.1]
  refine wpAny_pure ⟨_, rfl, wpAny_pure ?_⟩
  show Q (some (.ref h₃.objs.size)) { s with heap := h₃.push { cls := .type "tuple", data := .seq #[x, y] } }
  have hT3 : IsPair (h₃.push { cls := .type "tuple", data := .seq #[x, y] }) h₃.objs.size x y := Heap.get?_push_size _ rfl
  rw [hsz] at hT3 ⊢
  refine hQ _ (Heap.get?_push_of_some _ (hs₃.extBut _ _ D.i2z.symm (hs₂.extBut _ _ D.i1z.symm hzg))) ((h1₂.extBut hs₃.extBut D.i12).at fun o e => Heap.get?_push_of_some _ e) (h2₃.at fun o e => Heap.get?_push_of_some _ e) hT3
    fun c o c1 c2 c3 e => Heap.get?_push_of_some _ (hs₃.extBut _ _ c3 (hs₂.extBut _ _ c2 (sg.extBut _ _ c1 e)))
/-- the first tuple at its end, the second one may have more -/
theorem zl_end {z TI TO T i1 i2 l1 l2 : Addr} {k1 k2 : Nat} {xs ys : Array Value} {fl : Bool} {o : Obj} {Q : Option Value → Shared → Prop} (hh : A.handled = none) (D : ZipApart z TI TO i1 i2 l1 l2)
    (hz : ZAt s.heap z TI TO (rawInt T) fl) (hTo : s.heap.get? T = some o) (hTI : IsPair s.heap TI (.ref i1) (.ref i2))
    (h1 : s.heap.IsTupleIter i1 l1 k1) (h2 : s.heap.IsTupleIter i2 l2 k2) (hl1 : s.heap.IsTuple l1 xs) (hl2 : s.heap.IsTuple l2 ys) (hend : xs[k1]? = none ∨ ys[k2]? = none)
    (hQ : ∀ h', (∀ c o, c ≠ z → c ≠ i1 → c ≠ i2 → s.heap.get? c = some o → h'.get? c = some o) → Q none { s with heap := h' }) :
    wpAny (model prog w) A (pyNext (.ref z)) Q E s := by
  have hT : s.TypeIs (.ref z) "zip" := ⟨_, hz, rfl⟩
  unfold pyNext
  refine wpAny_bind (wpAny_attempt (wpAny_callSpecial?_slot (name := Str.ofString "__next__") hT F.slot_zip_next (wpAny_call_entry F.slot_zip_next hT F.entry_zip_next ?_ (F.args_zip_next_1 _))))
  have fin : ∀ h' e, (∀ c o, c ≠ z → c ≠ i1 → c ≠ i2 → s.heap.get? c = some o → h'.get? c = some o) → (∃ o, h'.get? e = some o ∧ o.cls = .type "StopIteration") →
      wpAny (model prog w) A (isInstance (.ref e) (.type "StopIteration") >>= fun b => if b = true then pure none else throw (.ref e)) Q E { s with heap := h' } := fun h' e hk ⟨o, ho, hc⟩ =>
    wpAny_bind (wpAny_isInstance (T := "StopIteration") (b := true) ⟨o, ho, hc⟩ isSubtype_stop (wpAny_pure (hQ _ hk)))
  show wpAny _ _ (field (.ref z) 2 >>= _) _ _ _
  refine wpAny_bind (wpAny_field hz rfl (x := .bool false) rfl ?_)
  show wpAny _ _ (field (.ref z) 3 >>= _) _ _ _
  refine wpAny_bind (wpAny_field hz rfl (x := .ref TI) rfl ?_)
  refine wpAny_bind (wpAny_seqItems hTI rfl ?_)
  show wpAny _ _ (Builtin.SmallTypes.ownedTupleIsFree (.ref z) >>= _) _ _ _
  refine wpAny_bind (zl_free hz hTo fun g hzg sg => ?_)
  simp only [Bool.false_eq_true, if_false]
  refine wpAny_bind ?_
  first
  | rw [List.forIn_toArray]
  | (rw [← Array.forIn_toList]; simp only [List.toList_toArray])
  | rw [← Array.forIn_toList]
  simp only [List.forIn_cons, List.forIn_nil]
  refine wpAny_bind (wpAny_bind (wpAny_holding ?_))
  show wpAny _ _ (Builtin.SmallTypes.nextOf (.ref i1) >>= _) _ _ _
  have g1 := h1.extBut sg.extBut D.i1z
  have g2 := h2.extBut sg.extBut D.i2z
  have gl1 := hl1.extBut sg.extBut D.l1z
  have gl2 := hl2.extBut sg.extBut D.l2z
  cases hx : xs[k1]? with
  | none =>
    exact wpAny_bind (nextOf_tuple_end hh g1 gl1 hx fun h₂ e hs₂ he => fin h₂ e (fun c o c1 c2 _ x => hs₂ _ _ c2 (sg.extBut _ _ c1 x)) he)
  | some x =>
    have hy : ys[k2]? = none := by
      rcases hend with h | h
      · rw [hx] at h; cases h
      · exact h
    refine wpAny_bind (nextOf_tuple_item g1 gl1 hx fun h₂ h1₂ hs₂ => wpAny_pure (wpAny_pure ?_))
    refine wpAny_bind (wpAny_bind (wpAny_holding ?_))
    show wpAny _ _ (Builtin.SmallTypes.nextOf (.ref i2) >>= _) _ _ _
    exact wpAny_bind (nextOf_tuple_end hh (g2.extBut hs₂.extBut D.i12.symm) (gl2.extBut hs₂.extBut D.l2i1) hy fun h₃ e hs₃ he => fin h₃ e (fun c o c1 c2 c3 x => hs₃ _ _ c3 (hs₂.extBut _ _ c2 (sg.extBut _ _ c1 x))) he)
end
section
variable {X : Cx} {pins : List (Addr × Obj)} {σ : L2.St} {A1 : Around} {a b q z TI TO i1 i2 : Addr} {xs ys : List V} {H0 : Hp} {Rs : Result → Shared → Prop}
/-- what the list at q holds: pairs, each new -/
def ZPairs (H0 : Hp) (xs ys : List V) (acc : List Addr) (H : Hp) : Prop :=
  ∀ (j : Nat) (t : Addr), acc[j]? = some t → ∃ x y : V, xs[j]? = some x ∧ ys[j]? = some y ∧ H t = some (.tup [x, y]) ∧ H0 t = none
def ZOwn (h : Heap) (H : Hp) (acc : List Addr) (z TI TO : Addr) : Prop :=
  (acc = [] ∧ IsZip h z TI TO .none) ∨ ∃ (T : Addr) (fl : Bool) (u : List V), ZAt h z TI TO (rawInt T) fl ∧ H T = some (.tup u)
def ZSt (h : Heap) (H : Hp) (acc : List Addr) (z TI TO i1 i2 a b : Addr) (i : Nat) : Prop :=
  ZOwn h H acc z TI TO ∧ IsPair h TI (.ref i1) (.ref i2) ∧ (∃ x y, IsPair h TO x y) ∧ h.IsTupleIter i1 a i ∧ h.IsTupleIter i2 b i
theorem zl_loop (hh : A1.in1.handled = none) (D : ZipApart z TI TO i1 i2 a b) (hm : xs.length < 1000) (ha0 : H0 a = some (.tup xs)) (hb0 : H0 b = some (.tup ys))
    (hdone : ∀ acc H s, Inv X pins σ H s → H q = some (.lst (acc.map V.ref)) → (∀ c u, H0 c = some u → H c = some u) → ZPairs H0 xs ys acc H → acc.length = min xs.length ys.length → Rs (.ok (.ret .none)) s) :
    ∀ (n i : Nat) (acc : List Addr) (H : Hp) (s : Shared), n + i = min xs.length ys.length → Inv X pins σ H s → (∀ c ∈ [z, TI, TO, i1, i2], FpOk X pins H c) → acc.length = i →
      H0 q = none → H q = some (.lst (acc.map V.ref)) → (∀ c u, H0 c = some u → H c = some u) → ZPairs H0 xs ys acc H → ZSt s.heap H acc z TI TO i1 i2 a b i →
      codeAny (model X.prog X.w) A1 (.builtin "list.extend.loop" ⟨[.ref q, .ref z, .none], []⟩) Rs s := by
  intro n
  induction n with
  | zero =>
    intro i acc H s hn I hf la hq0 hq h0 hp st
    have ha : SqT X.K H a xs := .inl (.inl (h0 _ _ ha0))
    have hb : SqT X.K H b ys := .inl (.inl (h0 _ _ hb0))
    refine codeAny_builtin PySem.F.entry_extend_loop ?_
    rw [Around.under_plainId PySem.F.plain_extend_loop _]
    show wpAny _ A1.in1 (pyNext (.ref z) >>= _) _ _ s
    obtain ⟨own, hTI, ⟨x0, y0, hTO⟩, h1, h2⟩ := st
    obtain ⟨its, rv, p1, _⟩ := I.tuple ha
    obtain ⟨its2, rv2, p2, _⟩ := I.tuple hb
    have l1 := rv.length
    have l2 := rv2.length
    have he : its.toArray[i]? = none ∨ its2.toArray[i]? = none := by
      by_cases k : xs.length ≤ ys.length
      · exact .inl (by simp; omega)
      · exact .inr (by simp; omega)
    have fin : ∀ h', (∀ c o, c ≠ z → c ≠ TO → c ≠ i1 → c ≠ i2 → s.heap.get? c = some o → h'.get? c = some o) → Rs (.ok (.ret .none)) { s with heap := h' } := fun h' hk =>
      hdone acc H _ (I.turnedL (t' := s.toks) (ch := [z, TI, TO, i1, i2]) (fun c o hb e => hk c o (fun e' => hb (by simp [e'])) (fun e' => hb (by simp [e'])) (fun e' => hb (by simp [e'])) (fun e' => hb (by simp [e'])) e) hf) hq h0 hp (by omega)
    rcases own with ⟨_, hz⟩ | ⟨T, fl, u, hz, hT⟩
    · exact wpAny_bind (pyNext_zipT_end hh D hz hTI hTO h1 h2 p1 p2 he fun h' hk => wpAny_pure (fin h' hk))
    · obtain ⟨o, ho⟩ : ∃ o, s.heap.get? T = some o := by
        obtain ⟨_, _, p3, _⟩ := I.tuple (show SqT X.K H T u from .inl (.inl hT))
        obtain ⟨o, ho, _⟩ := id p3
        exact ⟨o, ho⟩
      exact wpAny_bind (zl_end hh D hz ho hTI h1 h2 p1 p2 he fun h' hk => wpAny_pure (fin h' fun c o c1 _ c3 c4 e => hk c o c1 c3 c4 e))
  | succ n ih =>
    intro i acc H s hn I hf la hq0 hq h0 hp st
    have ha : SqT X.K H a xs := .inl (.inl (h0 _ _ ha0))
    have hb : SqT X.K H b ys := .inl (.inl (h0 _ _ hb0))
    refine codeAny_builtin PySem.F.entry_extend_loop ?_
    rw [Around.under_plainId PySem.F.plain_extend_loop _]
    show wpAny _ A1.in1 (pyNext (.ref z) >>= _) _ _ s
    obtain ⟨own, hTI, ⟨x0, y0, hTO⟩, h1, h2⟩ := st
    obtain ⟨its, rv, p1, _⟩ := I.tuple ha
    obtain ⟨its2, rv2, p2, _⟩ := I.tuple hb
    have l1 := rv.length
    have l2 := rv2.length
    obtain ⟨x, hx⟩ : ∃ x, xs[i]? = some x := ⟨_, List.getElem?_eq_getElem (by omega)⟩
    obtain ⟨y, hy⟩ : ∃ y, ys[i]? = some y := ⟨_, List.getElem?_eq_getElem (by omega)⟩
    obtain ⟨u, hu, ru⟩ := rv.get hx
    obtain ⟨u2, hu2, ru2⟩ := rv2.get hy
    have fn : H s.heap.objs.size = none := I.hok.fresh (Nat.le_refl _)
    have nq : q ≠ s.heap.objs.size := fun e => by rw [e, fn] at hq; cases hq
    have go : ∀ h' : Heap, (∃ (fl : Bool) (T : Addr) (w : List V), ZAt h' z TI TO (rawInt T) fl ∧ upd H s.heap.objs.size (.tup [x, y]) T = some (.tup w)) → (∃ x y, IsPair h' TO x y) → h'.IsTupleIter i1 a (i + 1) → h'.IsTupleIter i2 b (i + 1) → IsPair h' s.heap.objs.size u u2 →
        (∀ c o, c ≠ z → c ≠ TO → c ≠ i1 → c ≠ i2 → s.heap.get? c = some o → h'.get? c = some o) →
        wpAny (model X.prog X.w) A1.in1 (updateSeq q (·.push (.ref s.heap.objs.size)) >>= fun _ => again (.builtin "list.extend.loop" ⟨[.ref q, .ref z, .none], []⟩))
          (fun fin s' => match fin with | .done f => Rs (.ok f) s' | .again c' => c'.quiet = true ∧ codeAny (model X.prog X.w) A1 c' Rs s') (fun e s' => Rs (.error e) s') { s with heap := h' } := by
      intro h' hz' hTO' h1' h2' hT' hk
      have hTI' : IsPair h' TI (.ref i1) (.ref i2) := hk _ _ D.TIz D.TITO D.TIi1 D.TIi2 hTI
      have new : ObjOk X.prog X.w (upd H s.heap.objs.size (.tup [x, y])) h' s.heap.objs.size (.tup [x, y]) :=
        ⟨by show 2 ≤ sizeLine; rw [sizeLine_eq]; decide, [u, u2], .cons ru (.cons ru2 .nil), ⟨_, hT', rfl, _, rfl⟩⟩
      have I1 : Inv X pins σ (upd H s.heap.objs.size (.tup [x, y])) { s with heap := h' } :=
        I.turnedNew (t' := s.toks) (ch := [z, TI, TO, i1, i2]) (fun c o hb e => hk c o (fun e' => hb (by simp [e'])) (fun e' => hb (by simp [e'])) (fun e' => hb (by simp [e'])) (fun e' => hb (by simp [e'])) e) hf (Nat.le_refl _) new
      have hq1 : upd H s.heap.objs.size (.tup [x, y]) q = some (.lst (acc.map V.ref)) := by rw [upd_ne nq]; exact hq
      obtain ⟨_, its3, k, r3, hl3, e3⟩ := I1.lstM hq1
      rw [List.length_map] at hl3
      refine wpAny_bind (wpAny_updateSeq e3 rfl (wpAny_pure ⟨plainId_quiet PySem.F.plain_extend_loop _, ?_⟩) (by rw [List.size_toArray, sizeLine_eq]; omega) (by rw [Array.size_push, List.size_toArray, sizeLine_eq]; omega))
      have I2 := I1.lset (its' := its3 ++ [.ref s.heap.objs.size]) (ys := (acc ++ [s.heap.objs.size]).map V.ref) (f := (·.push (.ref s.heap.objs.size))) (t' := s.toks) hq1 e3 (by simp) (by rw [List.map_append]; exact r3.append (.cons rfl .nil)) (by rw [List.length_map, List.length_append, List.length_singleton, sizeLine_eq]; omega)
      have ex : ∀ c ∈ [z, TI, TO, i1, i2], c ≠ s.heap.objs.size ∧ c ≠ q := fun c hcm => by
        have hlt : c < s.heap.objs.size := by
          have e' : c = z ∨ c = TI ∨ c = TO ∨ c = i1 ∨ c = i2 := by simpa using hcm
          rcases e' with e | e | e | e | e
          · rw [e]
            rcases own with ⟨_, hz⟩ | ⟨T, fl, u, hz, hT⟩
            · exact Heap.lt_size hz
            · exact Heap.lt_size hz
          · rw [e]; exact Heap.lt_size hTI
          · rw [e]; exact Heap.lt_size hTO
          · rw [e]; obtain ⟨_, e1, _⟩ := h1; exact Heap.lt_size e1
          · rw [e]; obtain ⟨_, e2, _⟩ := h2; exact Heap.lt_size e2
        exact ⟨Nat.ne_of_lt hlt, fun e => by have := (hf c hcm).1; rw [e, hq] at this; cases this⟩
      have up : ∀ (c : Addr) (o : Obj), c ≠ q → h'.get? c = some o → (h'.update q (Obj.mapSeq (·.push (Value.ref s.heap.objs.size)))).get? c = some o := fun c o hc e => (Heap.get?_update_other _ _ (Ne.symm hc)).trans e
      refine ih (i + 1) (acc ++ [s.heap.objs.size]) _ _ (by omega) I2 (fun c hc => ⟨?_, (hf c hc).2⟩) (by rw [List.length_append, la, List.length_singleton]) hq0 upd_same (fun c v hv => ?_) (fun j t hj => ?_) ⟨.inr ?_, ?_, ?_, ?_, ?_⟩
      · rw [upd_ne (ex c hc).2, upd_ne (ex c hc).1]
        exact (hf c hc).1
      · have hcq : c ≠ q := fun e => by rw [e, hq0] at hv; cases hv
        have hcn : c ≠ s.heap.objs.size := fun e => by have w := h0 _ _ hv; rw [e, fn] at w; cases w
        rw [upd_ne hcq, upd_ne hcn]
        exact h0 _ _ hv
      · by_cases k : j < acc.length
        · rw [List.getElem?_append_left k] at hj
          obtain ⟨x1, y1, e1, e2, e3, e4⟩ := hp j t hj
          refine ⟨x1, y1, e1, e2, ?_, e4⟩
          rw [upd_ne (fun e => by rw [e, hq] at e3; cases e3), upd_ne (fun e => by rw [e, fn] at e3; cases e3)]
          exact e3
        · have hj2 := (List.getElem?_eq_some_iff.mp hj).1
          rw [List.length_append, List.length_singleton] at hj2
          have : j = i := by omega
          subst this
          rw [List.getElem?_append_right (by omega), la, Nat.sub_self] at hj
          cases hj
          refine ⟨x, y, hx, hy, ?_, ?_⟩
          · rw [upd_ne (Ne.symm nq), upd_same]
          · cases e : H0 s.heap.objs.size with
            | none => rfl
            | some v =>
              have w := h0 _ _ e
              rw [fn] at w
              cases w
      · obtain ⟨fl, T, w, e1, e2⟩ := hz'
        refine ⟨T, fl, w, up _ _ (ex z (by simp)).2 e1, ?_⟩
        rw [upd_ne (fun e => by rw [e, hq1] at e2; cases e2)]
        exact e2
      · exact up _ _ (ex TI (by simp)).2 hTI'
      · obtain ⟨x2, y2, e⟩ := hTO'
        exact ⟨x2, y2, up _ _ (ex TO (by simp)).2 e⟩
      · exact h1'.at fun o e => up _ o (ex i1 (by simp)).2 e
      · exact h2'.at fun o e => up _ o (ex i2 (by simp)).2 e
    rcases own with ⟨_, hz⟩ | ⟨T, fl, w, hz, hT⟩
    · exact wpAny_bind (pyNext_zipT_item D hz hTI hTO h1 h2 p1 p2 (x := u) (y := u2) (by simpa using hu) (by simpa using hu2) fun h' a1 a2 a3 a4 a5 _ a7 => go h' ⟨false, _, [x, y], a1, upd_same⟩ ⟨_, _, a2⟩ a3 a4 a5 a7)
    · obtain ⟨o, ho⟩ : ∃ o, s.heap.get? T = some o := by
        obtain ⟨_, _, p3, _⟩ := I.tuple (show SqT X.K H T w from .inl (.inl hT))
        obtain ⟨o, ho, _⟩ := id p3
        exact ⟨o, ho⟩
      exact wpAny_bind (zl_item D hz ho hTI h1 h2 p1 p2 (x := u) (y := u2) (by simpa using hu) (by simpa using hu2) fun h' a1 a2 a3 a4 a5 => go h' ⟨true, T, w, a1, by rw [upd_ne (fun e => by rw [e, fn] at hT; cases hT)]; exact hT⟩ ⟨_, _, a5 _ _ (Ne.symm (fun e => D.TOz e.symm)) D.TOi1 D.TOi2 hTO⟩ a2 a3 a4 fun c o c1 _ c3 c4 e => a5 c o c1 c3 c4 e)
theorem nolen_zp : typeLookup (.type "zip") "__len__" = pure none := by rw [typeLookup_type, builtinLookup_eq_fast]; kernel_rfl
theorem nohint_zp : typeLookup (.type "zip") "__length_hint__" = pure none := by rw [typeLookup_type, builtinLookup_eq_fast]; kernel_rfl
/-- list(z), z a zip at its start -/
theorem zl_list {s : Shared} {Q : VK} (hc : X.calm = true) (D : ZipApart z TI TO i1 i2 a b) (hm : xs.length < 1000) (ha0 : H0 a = some (.tup xs)) (hb0 : H0 b = some (.tup ys)) (I : Inv X pins σ H0 s) (hf : ∀ c ∈ [z, TI, TO, i1, i2], FpOk X pins H0 c)
    (hz : IsZip s.heap z TI TO .none) (hTI : IsPair s.heap TI (.ref i1) (.ref i2)) (hTO : ∃ x y, IsPair s.heap TO x y) (h1 : s.heap.IsTupleIter i1 a 0) (h2 : s.heap.IsTupleIter i2 b 0)
    (hQ : ∀ q H acc, H0 q = none → H q = some (.lst (acc.map V.ref)) → (∀ c u, H0 c = some u → H c = some u) → ZPairs H0 xs ys acc H → acc.length = min xs.length ys.length → Q (.ref q) H) :
    wpAny (model X.prog X.w) X.A (call (.type "list") [.ref z]) (EP X pins σ Q) X.xe s := by
  refine callType_codes (Q₁ := fun obj s₁ => obj = .ref s.heap.objs.size ∧ s₁ = { s with heap := s.heap.push { cls := .type "list", data := .seq #[] } }) PySem.F.called_list (PySem.F.typeCall_list_1 _) PySem.F.entry_list_init
    (code_list_new _ ⟨rfl, rfl⟩) fun obj s₁ h₁ => ?_
  obtain ⟨rfl, rfl⟩ := h₁
  have hS : (s.heap.push { cls := .type "list", data := .seq #[] }).get? s.heap.objs.size = some { cls := .type "list", data := .seq #[] } := Heap.get?_push_size _ rfl
  refine ⟨⟨_, hS, rfl⟩, PySem.F.args_list_init_2 _ _, ?_⟩
  have fr : H0 s.heap.objs.size = none := I.hok.fresh (Nat.le_refl _)
  obtain ⟨x0, y0, hTO⟩ := hTO
  have ex : ∀ c ∈ [z, TI, TO, i1, i2], c < s.heap.objs.size := fun c hcm => by
    have e' : c = z ∨ c = TI ∨ c = TO ∨ c = i1 ∨ c = i2 := by simpa using hcm
    rcases e' with e | e | e | e | e
    · rw [e]; exact Heap.lt_size hz
    · rw [e]; exact Heap.lt_size hTI
    · rw [e]; exact Heap.lt_size hTO
    · rw [e]; obtain ⟨_, e1, _⟩ := h1; exact Heap.lt_size e1
    · rw [e]; obtain ⟨_, e2, _⟩ := h2; exact Heap.lt_size e2
  have I1 : Inv X pins σ (upd H0 s.heap.objs.size (.lst [])) { s with heap := s.heap.push { cls := .type "list", data := .seq #[] } } := I.lnew (its := []) (t' := s.toks) .nil (Nat.zero_le _)
  show wpAny _ _ (do let old ← Builtin.List.listItems (.ref s.heap.objs.size); Builtin.List.listUpdate (.ref s.heap.objs.size) (fun _ => #[]); letGo old.toList.reverse; Builtin.List.listExtendWith (.ref s.heap.objs.size) (.ref z) .none) _ _ _
  refine wpAny_bind ?_
  unfold Builtin.List.listItems
  refine wpAny_bind (wpAny_seqItems hS rfl (wpAny_pure ?_))
  show wpAny _ _ (updateSeq s.heap.objs.size (fun _ => #[]) >>= fun _ => letGo (#[] : Array Value).toList.reverse >>= fun _ => Builtin.List.listExtendWith (.ref s.heap.objs.size) (.ref z) .none) _ _ _
  refine wpAny_bind (wpAny_updateSeq hS rfl ?_)
  have hS2 := Heap.get?_update_self (Obj.mapSeq (fun _ => (#[] : Array Value))) hS rfl
  have I2 := I1.lset (f := fun _ => #[]) (its := []) (its' := []) (ys := []) (t' := s.toks) upd_same hS rfl .nil (Nat.zero_le _)
  rw [upd_upd] at I2
  refine wpAny_bind (wpAny_letGo ?_)
  have up1 : ∀ (c : Addr) (o : Obj), s.heap.get? c = some o → ((s.heap.push { cls := .type "list", data := .seq #[] }).update s.heap.objs.size (Obj.mapSeq (fun _ => #[]))).get? c = some o := fun c o e =>
    (Heap.get?_update_other _ _ (Ne.symm (Nat.ne_of_lt (Heap.lt_size e)))).trans (Heap.get?_push_of_some _ e)
  unfold Builtin.List.listExtendWith
  refine wpAny_bind (wpAny_typeOf (T := "zip") ⟨_, up1 _ _ hz, rfl⟩ ?_)
  have q1 : Builtin.List.listSameRef (.ref s.heap.objs.size) (.ref z) = false := by simp [Builtin.List.listSameRef, Nat.ne_of_gt (ex z (by simp))]
  have q2 : (Value.type "zip" == Value.type "list") = false := by decide
  have q3 : (Value.type "zip" == Value.type "tuple") = false := by decide
  simp only [q1, q2, q3, Bool.or_false, Bool.false_eq_true, if_false]
  refine wpAny_bind (wpAny_pyIter_zip (up1 _ _ hz) ?_)
  refine wpAny_bind (wpAny_holding ?_)
  unfold Builtin.List.listLengthHint
  refine wpAny_bind (wpAny_specialOf (T := "zip") ⟨_, up1 _ _ hz, rfl⟩ nolen_zp ?_)
  show wpAny _ _ (specialOf (Value.ref z) (Str.ofString "__length_hint__") >>= _) _ _ _
  refine wpAny_bind (wpAny_specialOf (T := "zip") ⟨_, up1 _ _ hz, rfl⟩ nohint_zp ?_)
  refine wpAny_pure ?_
  show wpAny _ _ (rule "list.extend.makes-room" >>= fun _ => Builtin.List.listTouch (.ref s.heap.objs.size) >>= fun _ =>
    again (.builtin "list.extend.loop" ⟨[.ref s.heap.objs.size, .ref z, .none], []⟩)) _ _ _
  refine wpAny_bind (wpAny_rule ?_)
  refine wpAny_bind ?_
  show wpAny _ _ (updateSeq s.heap.objs.size (·.push .none) >>= fun _ => updateSeq s.heap.objs.size (·.pop)) _ _ _
  refine wpAny_bind (wpAny_updateSeq hS2 rfl ?_)
  have I3 := I2.lset (f := (·.push Value.none)) (its := []) (its' := [Value.none]) (ys := [.non]) (t' := s.toks) upd_same hS2 rfl (.cons rfl .nil) (by rw [List.length_singleton, sizeLine_eq]; decide)
  rw [upd_upd] at I3
  have hS3 := Heap.get?_update_self (Obj.mapSeq (·.push Value.none)) hS2 rfl
  refine wpAny_updateSeq (hz := by seq_fits) hS3 rfl ?_
  have I4 := I3.lset (f := (·.pop)) (its := [Value.none]) (its' := []) (ys := []) (t' := s.toks) upd_same hS3 rfl .nil (Nat.zero_le _)
  rw [upd_upd] at I4
  have nq : ∀ c ∈ [z, TI, TO, i1, i2], c ≠ s.heap.objs.size := fun c hc => Nat.ne_of_lt (ex c hc)
  have up4 : ∀ (c : Addr) (o : Obj), s.heap.get? c = some o → ((((s.heap.push { cls := .type "list", data := .seq #[] }).update s.heap.objs.size (Obj.mapSeq (fun _ => #[]))).update s.heap.objs.size (Obj.mapSeq (·.push Value.none))).update s.heap.objs.size (Obj.mapSeq (·.pop))).get? c = some o := fun c o e =>
    (Heap.get?_update_other _ _ (Ne.symm (Nat.ne_of_lt (Heap.lt_size e)))).trans ((Heap.get?_update_other _ _ (Ne.symm (Nat.ne_of_lt (Heap.lt_size e)))).trans (up1 c o e))
  refine wpAny_pure ⟨plainId_quiet PySem.F.plain_extend_loop _, zl_loop (A1 := X.A.in1) (q := s.heap.objs.size) (H0 := H0) (I.ok.hd hc) D hm ha0 hb0
    (fun acc H s' I' e1 e2 e3 e4 => ?_) (min xs.length ys.length) 0 [] _ _ (by omega) I4 (fun c hcm => ⟨?_, (hf c hcm).2⟩) rfl fr upd_same (fun c u hu => ?_) (fun j t hj => by cases hj) ⟨.inl ⟨rfl, up4 _ _ hz⟩, up4 _ _ hTI, ⟨_, _, up4 _ _ hTO⟩, h1.at fun o e => up4 _ o e, h2.at fun o e => up4 _ o e⟩⟩
  · exact ⟨rfl, .ref s.heap.objs.size, H, I', rfl, hQ _ _ _ fr e1 e2 e3 e4⟩
  · rw [upd_ne (nq c hcm)]
    exact (hf c hcm).1
  · rw [upd_ne (fun e => by rw [e, fr] at hu; cases hu)]
    exact hu
end
section
variable {X : Cx}
def tLz (K : PySem.W.Frag) (ta : TA) : TE := fun σ H Q => ta σ H fun vs H1 => ∃ a b xs ys, vs = [.ref a, .ref b] ∧ H1 a = some (.tup xs) ∧ H1 b = some (.tup ys) ∧ xs.length < 1000 ∧
  ∀ q H2 acc, H1 q = none → H2 q = some (.lst (acc.map V.ref)) → (∀ c u, H1 c = some u → H2 c = some u) → ZPairs H1 xs ys acc H2 → acc.length = min xs.length ys.length → Q (.ref q) H2
theorem pe_lz {e e2 : Expr} {ta : TA} {p pz pos posz : Pos} (hc : X.calm = true) (hgl : Gl X "list") (hml : X.mg "list" = none) (hgz : Gl X "zip") (hmz : X.mg "zip" = none) (ha : PA X [e, e2] ta)
    (hs : starEach [e, e2] X.env = (false, eval e X.env) :: starEach [e2] X.env := by rfl) (hpl : (backTo posz (starEach [e2] X.env)).any (·.1) = false := by rfl)
    (na : starEach [.Call (.Name "zip" pz) [e, e2] [] posz] X.env = (false, eval (.Call (.Name "zip" pz) [e, e2] [] posz) X.env) :: starEach [] X.env := by rfl) :
    PE X (.Call (.Name "list" p) [.Call (.Name "zip" pz) [e, e2] [] posz] [] pos) (tLz X.K ta) := by
  refine ⟨fun pins s σ H Q I h => ?_⟩
  have zipped : wpAny (model X.prog X.w) X.A (eval (.Call (.Name "zip" pz) [e, e2] [] posz) X.env) (fun v s1 => ∃ (z TI TO i1 i2 a b : Addr) (xs ys : List V) (H1 : Hp), v = .ref z ∧ ZipApart z TI TO i1 i2 a b ∧ H1 a = some (.tup xs) ∧ H1 b = some (.tup ys) ∧ xs.length < 1000 ∧
      Inv X pins σ H1 s1 ∧ (∀ c ∈ [z, TI, TO, i1, i2], FpOk X pins H1 c) ∧ IsZip s1.heap z TI TO .none ∧ IsPair s1.heap TI (.ref i1) (.ref i2) ∧ (∃ x y, IsPair s1.heap TO x y) ∧ s1.heap.IsTupleIter i1 a 0 ∧ s1.heap.IsTupleIter i2 b 0 ∧
      ∀ q H2 acc, H1 q = none → H2 q = some (.lst (acc.map V.ref)) → (∀ c u, H1 c = some u → H2 c = some u) → ZPairs H1 xs ys acc H2 → acc.length = min xs.length ys.length → Q (.ref q) H2) X.xe s := by
    refine Call_ (ld_blt I hgz hmz PyProof.Rows.boot_zip (PyProof.Rows.callWith_type1 (thn (ha.run posz pins s σ H _ I h) fun us s1 ⟨vs, H1, I1, r1, q1⟩ => ?_) hs hpl))
    obtain ⟨a, b, xs, ys, rfl, qa, qb, hl, q1⟩ := q1
    cases r1 with
    | cons r rr =>
      cases rr with
      | cons r' rr =>
        cases rr
        cases r
        cases r'
        obtain ⟨its, rv, p1, _⟩ := I1.tuple (show SqT X.K H1 a xs from .of qa)
        obtain ⟨its2, rv2, p2, _⟩ := I1.tuple (show SqT X.K H1 b ys from .of qb)
        obtain ⟨o1, ho1, _⟩ := id p1
        obtain ⟨o2, ho2, _⟩ := id p2
        refine call_zipT (show s1.heap.IsTuple a its.toArray from p1) (show s1.heap.IsTuple b its2.toArray from p2) fun h' hz hTI hTO h1 h2 hsz hk => ?_
        refine ⟨s1.heap.objs.size + 4, s1.heap.objs.size + 2, s1.heap.objs.size + 3, s1.heap.objs.size, s1.heap.objs.size + 1, a, b, xs, ys, H1, rfl, PySem.W.ktu_apart s1.heap.objs.size a b (Heap.lt_size ho1) (Heap.lt_size ho2), qa, qb, hl,
          I1.kept (t' := s1.toks) hk, fun c hcm => ?_, hz, hTI, ⟨_, _, hTO⟩, h1, h2, q1⟩
        have hle : s1.heap.objs.size ≤ c := by
          have e' : c = s1.heap.objs.size + 4 ∨ c = s1.heap.objs.size + 2 ∨ c = s1.heap.objs.size + 3 ∨ c = s1.heap.objs.size ∨ c = s1.heap.objs.size + 1 := by simpa using hcm
          rcases e' with e | e | e | e | e
          · rw [e]; exact Nat.le_add_right _ _
          · rw [e]; exact Nat.le_add_right _ _
          · rw [e]; exact Nat.le_add_right _ _
          · rw [e]; exact Nat.le_refl _
          · rw [e]; exact Nat.le_add_right _ _
        exact I1.fpOk hle (I1.hok.fresh hle)
  refine Call_ (ld_blt I hgl hml boot_list (PyProof.Rows.callWith_type1 (args_cons (thn zipped fun v s1 ⟨z, TI, TO, i1, i2, a, b, xs, ys, H1, ev, D, qa, qb, hl, I1, hf, hz, hTI, hTO, h1, h2, q⟩ => args_nil ?_) na) na))
  subst ev
  exact zl_list hc D hl qa qb I1 hf hz hTI hTO h1 h2 q
end
end Rv
/-! t.count(k), min(t) of a tuple of whole numbers; xs.remove(k) that finds k; a tuple that is spread into a tuple or a call -/
namespace Rv
open PySem PySem.Spec PyProof.Rows L2
section
variable {X : Cx}
def rCntT (K : PySem.W.Frag) : V → List V → Hp → VK → Prop := fun x xs H Q => ∃ (p : Addr) (ns : List Int) (k : Int), x = .ref p ∧ xs = [.int k] ∧ SqT K H p (ns.map V.int) ∧ Q (.int (ns.count k : Nat)) H
theorem cnt_eq (ns : List Int) (k : Int) : ns.countP (fun y => decide (y = k)) = ns.count k := by
  unfold List.count
  congr 1
theorem mt_tcount (hu : X.A.units + 64 < cLine) : MtR X "tuple.count" (rCntT X.K) := by
  intro pins s σ H x xs v us Q I rx rxs h
  obtain ⟨p, ns, k, rfl, rfl, hs, q⟩ := h
  cases rx
  obtain ⟨u, rfl, ru⟩ := rxs.one
  obtain ⟨t, rfl⟩ := ru
  obtain ⟨its, rv, tp, _⟩ := I.tuple hs
  have hi := ints_of_vals rv
  refine PySem.W.count_tuple_datum (show s.heap.IsTuple p its.toArray from tp) (xs := ns) (x := k) (by rw [List.toList_toArray]; exact PySem.W.HoldAll.of_ints hi) (PySem.W.holds_int k t) (by show X.A.units + 1 + 0 < cLine; omega) ?_
  rw [cnt_eq]
  exact ⟨.int (ns.count k : Nat), H, I.tok _, ⟨_, rfl⟩, q⟩
theorem min_fold : ∀ (xs : List Int) (x : Int), (xs.foldl (fun a y => if PySem.W.DatumOrd.lt y a = true then y else a) x ∈ x :: xs) ∧ ∀ y ∈ x :: xs, xs.foldl (fun a y => if PySem.W.DatumOrd.lt y a = true then y else a) x ≤ y := by
  intro xs
  induction xs with
  | nil => exact fun x => ⟨List.mem_cons_self .., fun y hy => by rw [List.mem_singleton.mp hy]; exact Int.le_refl _⟩
  | cons z r ih =>
    intro x
    rw [List.foldl_cons]
    have lt : PySem.W.DatumOrd.lt z x = decide (z < x) := rfl
    obtain ⟨h1, h2⟩ := ih (if PySem.W.DatumOrd.lt z x = true then z else x)
    generalize List.foldl (fun a y => if PySem.W.DatumOrd.lt y a = true then y else a) (if PySem.W.DatumOrd.lt z x = true then z else x) r = m at h1 h2
    rw [lt] at h1 h2
    by_cases c : z < x
    · rw [decide_eq_true c, if_pos rfl] at h1 h2
      refine ⟨List.mem_cons_of_mem _ h1, fun y hy => ?_⟩
      rcases List.mem_cons.mp hy with e | hy
      · have := h2 z (List.mem_cons_self ..)
        omega
      · exact h2 y hy
    · rw [decide_eq_false c, if_neg (by decide)] at h1 h2
      refine ⟨?_, fun y hy => ?_⟩
      · rcases List.mem_cons.mp h1 with e | e
        · rw [e]; exact List.mem_cons_self ..
        · exact List.mem_cons_of_mem _ (List.mem_cons_of_mem _ e)
      · rcases List.mem_cons.mp hy with e | hy
        · rw [e]; exact h2 x (List.mem_cons_self ..)
        · rcases List.mem_cons.mp hy with e | hy
          · have := h2 x (List.mem_cons_self ..)
            omega
          · exact h2 y (List.mem_cons_of_mem _ hy)
def rMinT : List V → Hp → VK → Prop := fun vs H Q => ∃ (a : Addr) (ns : List Int), vs = [V.ref a] ∧ H a = some (.tup (ns.map V.int)) ∧ 0 < ns.length ∧ ∀ m, m ∈ ns → (∀ y, y ∈ ns → m ≤ y) → Q (.int m) H
theorem cr_minT (hc : X.calm = true) (hu : X.A.units + 64 < cLine) : CallR X (.builtin "min") rMinT := by
  intro pins s σ H vs us Q I r h
  obtain ⟨a, ns, rfl, hs, hne, q⟩ := h
  obtain ⟨its, rv, tp, _⟩ := I.tuple (show SqT X.K H a _ from .of hs)
  rw [Vals.ref1 r]
  have hi := ints_of_vals rv
  cases ns with
  | nil => exact absurd hne (Nat.lt_irrefl 0)
  | cons x xs =>
    refine PySem.W.min_tuple_datum (I.ok.hd hc) (show s.heap.IsTuple a its.toArray from tp) (x := x) (xs := xs) (by rw [List.toList_toArray]; exact PySem.W.HoldAll.of_ints hi) (by show X.A.units + 1 + 0 < cLine; omega) fun i v h' tk hv hh hk => ?_
    obtain ⟨h1, h2⟩ := min_fold xs x
    obtain ⟨as, hr⟩ := hh
    have ev : ∃ t, v = .int (PySem.W.minOf x xs) t := by
      generalize hg : (PySem.W.Datum.toD (PySem.W.minOf x xs) : PyData) = d at hr
      have hg' : PyData.int (PySem.W.minOf x xs) = d := hg
      subst hg'
      cases hr with
      | int n t => exact ⟨t, rfl⟩
    obtain ⟨t, rfl⟩ := ev
    exact ⟨.int _, H, I.kept hk, ⟨t, rfl⟩, q _ h1 h2⟩
end
end Rv
/-! rings of a goal, the log over a spare block, and how the rest is spread -/
namespace RL
/-- different numbers below n are at most n -/
theorem nd_len : ∀ (n : Nat) (p : List Nat), p.Nodup → (∀ x ∈ p, x < n) → p.length ≤ n := by
  intro n
  induction n with
  | zero =>
    intro p _ h
    cases p with
    | nil => exact Nat.le_refl _
    | cons x r => exact absurd (h x (List.mem_cons_self ..)) (Nat.not_lt_zero _)
  | succ n ih =>
    intro p nd h
    by_cases k : n ∈ p
    · have e := List.length_erase_of_mem k
      have := ih (p.erase n) (nd.erase n) fun x hx => by
        have h1 := h x (List.mem_of_mem_erase hx)
        have h2 : x ≠ n := fun z => by rw [z] at hx; exact absurd hx (nd.not_mem_erase)
        omega
      have : 0 < p.length := List.length_pos_of_mem k
      omega
    · have := ih p nd fun x hx => by
        have h1 := h x hx
        have h2 : x ≠ n := fun z => k (z ▸ hx)
        omega
      omega
theorem nd_inj {p : List Nat} (nd : p.Nodup) {i j x : Nat} (hi : p[i]? = some x) (hj : p[j]? = some x) : i = j := by
  obtain ⟨l1, e1⟩ := List.getElem?_eq_some_iff.mp hi
  obtain ⟨l2, e2⟩ := List.getElem?_eq_some_iff.mp hj
  have pw := List.pairwise_iff_getElem.mp nd
  rcases Nat.lt_trichotomy i j with h | h | h
  · exact absurd (e1.trans e2.symm) (pw i j l1 l2 h)
  · exact h
  · exact absurd (e2.trans e1.symm) (pw j i l2 l1 h)
variable {g : Nat → Nat} {n : Nat}
def fol (g : Nat → Nat) : Nat → List Nat → List Nat
  | 0, p => p
  | k + 1, p => if g (p.getLastD 0) ∈ p then p else fol g k (p ++ [g (p.getLastD 0)])
structure Pth (g : Nat → Nat) (n b : Nat) (p : List Nat) : Prop where
  hd : p[0]? = some b
  nd : p.Nodup
  lt : ∀ x ∈ p, x < n
  st : ∀ i x y, p[i]? = some x → p[i + 1]? = some y → y = g x
theorem Pth.start {b : Nat} (h : b < n) : Pth g n b [b] := ⟨rfl, by simp, fun x hx => by rw [List.mem_singleton.mp hx]; exact h, fun i x y _ h2 => by simp at h2⟩
theorem Pth.ne {b : Nat} {p : List Nat} (P : Pth g n b p) : p ≠ [] := fun e => by have := P.hd; rw [e] at this; cases this
theorem last_at {p : List Nat} (h : p ≠ []) : p[p.length - 1]? = some (p.getLastD 0) := by
  rw [List.getLastD_eq_getLast?, List.getLast?_eq_getElem?]
  cases p with
  | nil => exact absurd rfl h
  | cons x r =>
    rw [List.getElem?_eq_getElem (by rw [List.length_cons]; omega)]
    rfl
theorem last_mem {p : List Nat} (h : p ≠ []) : p.getLastD 0 ∈ p := List.mem_of_getElem? (last_at h)
theorem last_snoc (p : List Nat) (x : Nat) : (p ++ [x]).getLastD 0 = x := by
  have h := last_at (p := p ++ [x]) (by simp)
  rw [List.length_append, List.length_singleton, Nat.add_sub_cancel, List.getElem?_append_right (Nat.le_refl _), Nat.sub_self] at h
  exact (Option.some.inj h).symm
theorem Pth.next {b : Nat} {p : List Nat} (P : Pth g n b p) (h : g (p.getLastD 0) ∉ p) (hl : g (p.getLastD 0) < n) : Pth g n b (p ++ [g (p.getLastD 0)]) := by
  have hp : 0 < p.length := List.length_pos_iff.mpr P.ne
  refine ⟨by rw [List.getElem?_append_left hp]; exact P.hd, ?_, fun x hx => ?_, fun i x y h1 h2 => ?_⟩
  · rw [List.nodup_append]
    exact ⟨P.nd, by simp, fun a ha b hb => by rw [List.mem_singleton.mp hb]; exact fun z => h (z ▸ ha)⟩
  · rcases List.mem_append.mp hx with k | k
    · exact P.lt x k
    · rw [List.mem_singleton.mp k]; exact hl
  · have h3 := (List.getElem?_eq_some_iff.mp h2).1
    rw [List.length_append, List.length_singleton] at h3
    rw [List.getElem?_append_left (by omega)] at h1
    by_cases k : i + 1 < p.length
    · rw [List.getElem?_append_left k] at h2
      exact P.st i x y h1 h2
    · have e : i = p.length - 1 := by omega
      rw [List.getElem?_append_right (by omega), show i + 1 - p.length = 0 by omega] at h2
      rw [e, last_at P.ne] at h1
      cases h1
      cases h2
      rfl
theorem Pth.len {b : Nat} {p : List Nat} (P : Pth g n b p) : p.length ≤ n := nd_len n p P.nd P.lt
theorem fol_stop {p : List Nat} (h : g (p.getLastD 0) ∈ p) : ∀ k, fol g k p = p
  | 0 => rfl
  | k + 1 => if_pos h
theorem fol_step {p : List Nat} (h : g (p.getLastD 0) ∉ p) (k : Nat) : fol g (k + 1) p = fol g k (p ++ [g (p.getLastD 0)]) := if_neg h
/-- the way from a block ends where it comes back to itself -/
theorem fol_end (hg : ∀ b, b < n → g b < n) {b : Nat} : ∀ k p, Pth g n b p → p.length + k = n + 1 → Pth g n b (fol g k p) ∧ g ((fol g k p).getLastD 0) ∈ fol g k p := by
  intro k
  induction k with
  | zero =>
    intro p P hl
    have := P.len
    omega
  | succ k ih =>
    intro p P hl
    by_cases h : g (p.getLastD 0) ∈ p
    · rw [fol_stop h]; exact ⟨P, h⟩
    · rw [fol_step h]
      exact ih _ (P.next h (hg _ (P.lt _ (last_mem P.ne)))) (by rw [List.length_append, List.length_singleton]; omega)
def F (g : Nat → Nat) (n b : Nat) : List Nat := fol g n [b]
theorem F_end (hg : ∀ b, b < n → g b < n) {b : Nat} (hb : b < n) : Pth g n b (F g n b) ∧ g ((F g n b).getLastD 0) ∈ F g n b := fol_end hg n [b] (.start hb) (by rw [List.length_singleton]; omega)
def IsR (g : Nat → Nat) (p : List Nat) : Prop := 1 < p.length ∧ g (p.getLastD 0) = p.headD 0 ∧ ∀ x ∈ p, p.headD 0 ≤ x
instance {g : Nat → Nat} {p : List Nat} : Decidable (IsR g p) := by unfold IsR; exact inferInstance
theorem Pth.headD {b : Nat} {p : List Nat} (P : Pth g n b p) : p.headD 0 = b := by
  have h := P.hd
  cases p with
  | nil => cases h
  | cons x r => exact Option.some.inj h
/-! counts -/
/-! the goal -/
structure GOk (gs : List Int) : Prop where
  l1 : 1 ≤ gs.length
  l12 : gs.length ≤ 12
  en : ∀ e ∈ gs, 0 ≤ e ∧ e < gs.length
def gn (gs : List Int) (b : Nat) : Nat := (gs.getD b 0).toNat
variable {gs : List Int}
def One (gs : List Int) (p : List Nat) : Prop := ∀ b ∈ p, gs.count (b : Int) = 1
instance {gs : List Int} {p : List Nat} : Decidable (One gs p) := by unfold One; exact inferInstance
def ways (gs : List Int) (i : Nat) : List (List Nat) := (List.range i).map (F (gn gs) gs.length)
def rgs (gs : List Int) (i : Nat) : List (List Nat) := (ways gs i).filter fun p => decide (IsR (gn gs) p)
def clo (gs : List Int) (i : Nat) : List (List Nat) := (rgs gs i).filter fun p => decide (One gs p)
abbrev clos (gs : List Int) : List (List Nat) := clo gs gs.length
abbrev inr (gs : List Int) : List Nat := (clos gs).flatten
def mov (gs : List Int) (i : Nat) : List Nat := (List.range i).filter fun b => decide (gn gs b ≠ b)
def rst (gs : List Int) : List Nat := (mov gs gs.length).filter fun b => decide (b ∉ inr gs)
/-! what a log of pairs (target, source) does -/
def ap (c : Nat → Nat) (q : Nat × Nat) : Nat → Nat := fun b => if b = q.1 then c q.2 else c b
def run (c : Nat → Nat) (qs : List (Nat × Nat)) : Nat → Nat := qs.foldl ap c
/-- the pairs of a way, its end from s -/
def tp : Nat → List Nat → Nat → List (Nat × Nat)
  | a, [], s => [(a, s)]
  | a, x :: r, s => (a, x) :: tp x r s
def VP (n : Nat) (q : Nat × Nat) : Prop := q.1 < n ∧ q.2 < n ∧ q.1 ≠ q.2
/-! the rest is spread -/
def rows0 (gs : List Int) (s : Nat) : List (Nat × Nat) := (clos gs).flatMap fun p => tp s p s
def c0 (gs : List Int) (s : Nat) : Nat → Nat := run id (rows0 gs s)
structure Sp (gs : List Int) (s : Nat) (W : List Nat) (h : Nat → Nat) (T : List (Nat × Nat)) : Prop where
  nd : W.Nodup
  sub : ∀ b ∈ W, b ∈ rst gs
  don : ∀ b ∈ rst gs, b ∉ W → run (c0 gs s) T b = gn gs b
  oth : ∀ b, b < gs.length → b ∉ rst gs → run (c0 gs s) T b = gn gs b
  hol : ∀ b ∈ W, run (c0 gs s) T (h (gn gs b)) = gn gs b
  hom : ∀ v, v < gs.length → h v = v ∨ (h v ∈ rst gs ∧ h v ∉ W)
  prc : ∀ b ∈ rst gs, b ∉ W → h (gn gs b) ∈ rst gs ∧ h (gn gs b) ∉ W
  len : T.length + W.length = (rst gs).length
  val : ∀ q ∈ T, VP gs.length q
end RL
/-! own error classes without fields; readings of the steps of Nw and Nx -/
namespace Rv
open PySem PySem.Spec PyProof.Rows L2
abbrev vBase : List Value := [.type "ValueError", .type "Exception", .type "BaseException", .type "object"]
/-- an error class without a maker of its own -/
structure Err0 (K : PySem.W.Frag) (mg : Str → Option Value) (C : Addr) (x : Str) : Prop where
  gC : mg x = some (.ref C)
  q : PySem.W.excIn K C vBase "ValueError.__new__" = true
  kC : PySem.W.keepIn K (.ref C) = true
  bC : PySem.W.subIn K (.ref C) (.type "BaseException") = some true
  tC : PySem.W.typeIn K (.ref C) = some (.type "type")
  ec : ExcC K C
  icl : PySem.W.isClsIn K C = true
section
variable {X : Cx} {C : Addr} {bmB : List Value} {B newId initId : String}
end
section
variable {X : Cx} {K : PySem.W.Frag} {o e : Expr} {to te : TE} {apos cpos : Pos}
/-- a tuple of whole numbers whose object has no dict -/
def GT (H : Hp) (a : Addr) (gs : List Int) : Prop := ∃ o : Obj, H a = some (.frz o (.tup (gs.map V.int))) ∧ o.dict = none
theorem GT.sq {H : Hp} {a : Addr} {gs : List Int} (g : GT H a gs) : SqT K H a (gs.map V.int) := by
  obtain ⟨o, h, _⟩ := g
  exact .inl (.inr ⟨o, h⟩)
theorem GT.same {H H' : Hp} {a : Addr} {gs : List Int} (g : GT H a gs) (S : Same H H') : GT H' a gs := by
  obtain ⟨o, h, d⟩ := g
  exact ⟨o, S _ _ h, d⟩
def tTc (to te : TE) : TE := fun σ H Q => to σ H fun x H1 => ∃ p ns, x = .ref p ∧ GT H1 p ns ∧ te σ H1 fun y H2 => ∃ k, [y] = [V.int k] ∧ GT H2 p ns ∧ Q (.int (ns.count k : Nat)) H2
theorem pe_tcnt (hu : X.A.units + 64 < cLine) (ho : PE X o to) (he : PE X e te)
    (h1 : attributeBase o "count" X.env (eval o X.env) = eval o X.env := by rfl)
    (h2 : ((backTo cpos (starEach [e] X.env)).all (fun x => !x.1) && (backToKw cpos (keywordEach [] X.env)).all (fun x => x.1.isSome)
      && decide ([e].length + ([] : List Keyword).length + (if ([] : List Keyword).isEmpty then 0 else 1) < 30)) = true := by rfl)
    (h3 : (apos.endLine == cpos.line) = true := by rfl) (h4 : starEach [e] X.env = (false, eval e X.env) :: starEach [] X.env := by rfl) (h5 : (backTo cpos (starEach [] X.env)).any (·.1) = false := by rfl) :
    PE X (.Call (.Attribute o "count" apos) [e] [] cpos) (tTc to te) := by
  refine ⟨fun pins s σ H Q I h => ?_⟩
  refine wpAny_Call_method_late h1 h2 h3 rfl (thn (ho.run pins s σ H _ I h) fun v s1 ⟨x, H1, I1, r1, p, ns, ex, gp, q1⟩ => ?_)
  subst ex
  cases r1
  obtain ⟨ob, hb, hd⟩ := id gp
  obtain ⟨ho1, _, its, rv, o2, ho2, hc2, n2, hd2⟩ := (show ObjOk X.prog X.w H1 s1.heap p (.frz ob (.tup (ns.map V.int))) from I1.hok p _ hb)
  rw [ho1] at ho2
  cases ho2
  refine ⟨"tuple", _, PySem.F.plainAttrs_tuple, PySem.F.slot_tuple_count, PySem.F.type_tuple_count, ⟨_, ho1, hc2⟩, fun a ea => by cases ea; exact ⟨_, ho1, hd⟩, ?_⟩
  have ha : PA X [e] (tCons te tNil) := pa_cons he pa_nil (hs := h4)
  have hA := ha.run cpos pins s1 σ H1 (fun vs H2 => ∃ k, vs = [.int k] ∧ GT H2 p ns ∧ Q (.int (ns.count k : Nat)) H2) I1 q1
  rw [h4] at hA ⊢
  refine Calls.callWith_builtin (by show (false || (backTo cpos (starEach [] X.env)).any (·.1)) = false; rw [h5] <;> rfl) (Calls.evalArgs_plain ?_)
  exact thn hA fun us s2 ⟨vs, H2, I2, r2, k, ev, g2, q2⟩ => mt_tcount hu pins s2 σ H2 (.ref p) vs (.ref p) us Q I2 rfl r2 ⟨p, ns, k, rfl, ev, g2.sq, q2⟩
end
/-- tuple(list): the object is known -/
def rTupF (K : PySem.W.Frag) : List V → Hp → VK → Prop := fun xs H Q => ∃ (p : Addr) (ns : List Int), xs = [.ref p] ∧ SqL K H p (ns.map V.int) ∧ ∀ l (o : Obj), H l = none → o.dict = none → Q (.ref l) (upd H l (.frz o (.tup (ns.map V.int))))
theorem call_tupF {X : Cx} : CallR X (.type "tuple") (rTupF X.K) := by
  intro pins s σ H xs us Q I r h
  obtain ⟨p, ns, rfl, hq, q⟩ := h
  rw [Vals.ref1 r]
  obtain ⟨its, r', pl, hz⟩ := I.list hq
  have hlen := r'.length
  refine call_tuple_list pl.isList (fun h' kp => ?_) (by simp only [List.size_toArray] <;> omega)
  have I1 : Inv X pins σ H { s with heap := h' } := I.kept (t' := s.toks) kp
  have I2 := I1.laid (t' := s.toks) (h' := h'.push { cls := .type "tuple", data := .seq its.toArray }) (a := h'.objs.size) (o := .frz { cls := .type "tuple", data := .seq its.toArray } (.tup (ns.map V.int))) (fun b o e => Heap.get?_push_of_some _ e) (Nat.le_refl _)
    (show ObjOk X.prog X.w _ _ _ (.frz { cls := .type "tuple", data := .seq its.toArray } (.tup (ns.map V.int))) from ⟨Heap.get?_push_size _ rfl, hz, its, r', IsTup.new _ _⟩)
  exact ⟨.ref h'.objs.size, _, I2, rfl, q _ _ (I1.hok.fresh (Nat.le_refl _)) rfl⟩
def rIsG : List V → Hp → VK → Prop := fun vs H Q => ∃ (a : Addr) (gs : List Int), vs = [.ref a, .ty "tuple"] ∧ GT H a gs ∧ Q (.bl true) H
theorem call_isG {X : Cx} : CallR X (.builtin "isinstance") rIsG := by
  intro pins s σ H xs us Q I r h
  obtain ⟨a, gs, rfl, ⟨o, ha, hd⟩, q⟩ := h
  cases r with
  | cons rx rr =>
    cases rr with
    | cons rt rr =>
      cases rr
      cases rx
      cases rt
      obtain ⟨h1, _, its, rv, o2, h2, h3, n2, h4⟩ := (show ObjOk X.prog X.w H s.heap a (.frz o (.tup (gs.map V.int))) from I.hok a _ ha)
      exact PySem.W.kia_one PySem.W.kitx_tuple I.kIn ⟨o2, h2, h3⟩ (kit_ty (K := X.K) (show kitB "tuple" "tuple" = some true by decide +kernel)) (fun z => nomatch z) fun tk => ⟨.bl true, H, I.kept (t' := tk) fun _ _ z => z, rfl, q⟩
theorem feed_tupG {P : Program} {w : World} {K : PySem.W.Frag} (it a : Addr) (o : Obj) (xs : List V) :
    Feed P w K it xs.length (fun H => H a = some (.frz o (.tup xs))) (fun i => xs[i]?) (fun i h => h.IsTupleIter it a i) where
  cell := fun i h q => by
    obtain ⟨ob, e1, e2, e3⟩ := q
    refine ⟨ob, e1, fun v z => ?_⟩
    rw [e3] at z
    cases z
  stay := fun i h1 h2 q k => by
    obtain ⟨ob, e1, e2⟩ := q
    exact ⟨ob, k ob e1, e2⟩
  feed := fun X hP hw hK hc pins σ H s I hg hn => by
    obtain ⟨its, rv, hT, _⟩ := I.tuple (show SqT X.K H a xs from .inl (.inr ⟨o, hg⟩))
    have hl : its.toArray.size = xs.length := by
      rw [List.size_toArray]
      exact rv.length.symm
    have nai : a ≠ it := ne_of_none hg hn
    have D := Draws.tuple (prog := X.prog) (w := X.w) (A := X.A.in1) (show X.A.in1.handled = none from I.ok.hd hc) it a nai its.toArray
    rw [hl] at D
    refine ⟨[it, a], _, _, D, fun _ _ q => q.1, fun _ q => ⟨q, hT⟩, fun i u q => ?_, fun b hb hbn hm => ?_⟩
    · have q2 : its[i]? = some u := by simpa using q
      have hi : i < xs.length := by
        have := (List.getElem?_eq_some_iff.mp q2).1
        rw [rv.length]
        exact this
      obtain ⟨u', e1, r1⟩ := rv.get (List.getElem?_eq_getElem hi)
      rw [q2] at e1
      cases e1
      exact ⟨xs[i], r1, List.getElem?_eq_getElem hi⟩
    · rcases List.mem_cons.mp hm with z | z
      · exact hb z
      · have z2 : b = a := by simpa using z
        rw [z2, hg] at hbn
        cases hbn
section
variable {K : PySem.W.Frag} {σ : L2.St} {H : Hp} {Q : VK} {p : Addr} {gs : List Int} {R : It → Hp → Prop}
theorem rd_isG (g : GT H p gs) (q : Q (.bl true) H) : rIsG [.ref p, .ty "tuple"] H Q := ⟨p, gs, rfl, g, q⟩
theorem rd_tupF (h : H p = some (.lst (gs.map V.int))) (q : ∀ H2 l, Same H H2 → H l = none → GT H2 l gs → Q (.ref l) H2) : rTupF K [.ref p] H Q :=
  ⟨p, gs, rfl, .of h, fun l o nl d => q _ l (same_new (Same.refl _) nl) nl ⟨o, upd_same, d⟩⟩
end
section
variable {K : PySem.W.Frag} {σ : L2.St} {H : Hp} {Q : VK}
theorem rd_minT {a : Addr} {ns : List Int} (h : H a = some (.tup (ns.map V.int))) (l : 0 < ns.length) (q : ∀ m, m ∈ ns → (∀ y, y ∈ ns → m ≤ y) → Q (.int m) H) : rMinT [.ref a] H Q := ⟨a, ns, rfl, h, l, q⟩
theorem rd_minL {a : Addr} {ns : List Int} (h : H a = some (.lst (ns.map V.int))) (l : 0 < ns.length) (q : ∀ m, m ∈ ns → (∀ y, y ∈ ns → m ≤ y) → Q (.int m) H) : rMin K [.ref a] H Q := ⟨a, ns, rfl, .of h, l, q⟩
end
open RL
def niz (l : List Nat) : List Int := l.map fun b : Nat => (b : Int)
def nvs (l : List Nat) : List V := (niz l).map V.int
theorem niz_len (l : List Nat) : (niz l).length = l.length := List.length_map ..
theorem nvs_len (l : List Nat) : (nvs l).length = l.length := by unfold nvs; rw [List.length_map, niz_len]
theorem mem_niz {b : Nat} {l : List Nat} : (b : Int) ∈ niz l ↔ b ∈ l := by
  unfold niz
  rw [List.mem_map]
  exact ⟨fun ⟨x, hx, e⟩ => (Int.ofNat.inj e) ▸ hx, fun h => ⟨b, h, rfl⟩⟩
theorem niz_of {k : Int} {l : List Nat} (h : k ∈ niz l) : ∃ b : Nat, k = (b : Int) ∧ b ∈ l := by
  obtain ⟨b, hb, e⟩ := List.mem_map.mp h
  exact ⟨b, e.symm, hb⟩
theorem nvs_app (a b : List Nat) : nvs (a ++ b) = nvs a ++ nvs b := by unfold nvs niz; rw [List.map_append, List.map_append]
theorem nvs_get {l : List Nat} {i b : Nat} (h : l[i]? = some b) : (nvs l)[i]? = some (V.int (b : Int)) := by unfold nvs niz; rw [List.getElem?_map, List.getElem?_map, h]; rfl
theorem nvs_atI {l : List Nat} {i b : Nat} (h : l[i]? = some b) : atI (nvs l) (i : Int) = some (V.int (b : Int)) := atI_nat (nvs_get h)
theorem nvs_last {l : List Nat} (h : l ≠ []) : atI (nvs l) (-1) = some (V.int ((l.getLastD 0 : Nat) : Int)) := by
  have hl : 0 < l.length := List.length_pos_iff.mpr h
  have e := nvs_get (last_at h)
  have hn := nvs_len l
  unfold atI ixN
  rw [hn, if_neg (by decide), if_pos (by omega)]
  show (nvs l)[((-1 : Int) + ((l.length : Nat) : Int)).toNat]? = _
  rw [show ((-1 : Int) + ((l.length : Nat) : Int)).toNat = l.length - 1 by omega]
  exact e
theorem nvs_in {b : Nat} {l : List Nat} : inV (V.int (b : Int)) (nvs l) = decide (b ∈ l) := by
  unfold nvs
  rw [inV_ints]
  by_cases h : b ∈ l
  · rw [decide_eq_true h, decide_eq_true (mem_niz.mpr h)]
  · rw [decide_eq_false h, decide_eq_false (fun z => h (mem_niz.mp z))]
theorem nvs_flat (l : List Nat) : (nvs l).all flatV = true := by
  unfold nvs
  rw [List.all_eq_true]
  intro x hx
  obtain ⟨k, _, rfl⟩ := List.mem_map.mp hx
  rfl
theorem ints_flat (l : List Int) : (l.map V.int).all flatV = true := by
  rw [List.all_eq_true]
  intro x hx
  obtain ⟨k, _, rfl⟩ := List.mem_map.mp hx
  rfl
/-- rows of block numbers -/
abbrev NRows (H : Hp) (bs : List Addr) (ps : List (List Nat)) : Prop := TupsAt H bs (ps.map nvs)
theorem NRows.len {H : Hp} {bs : List Addr} {ps : List (List Nat)} (t : NRows H bs ps) : bs.length = ps.length := by rw [t.1, List.length_map]
theorem NRows.kt {H H' : Hp} {bs : List Addr} {ps : List (List Nat)} (t : NRows H bs ps) (k : Kt H H') : NRows H' bs ps := TupsAt.kt k t
theorem NRows.same {H H' : Hp} {bs : List Addr} {ps : List (List Nat)} (t : NRows H bs ps) (S : Same H H') : NRows H' bs ps := TupsAt.same S t
theorem NRows.snoc {H : Hp} {bs : List Addr} {ps : List (List Nat)} {a : Addr} {p : List Nat} (t : NRows H bs ps) (h : H a = some (.tup (nvs p))) : NRows H (bs ++ [a]) (ps ++ [p]) := by
  unfold NRows
  rw [List.map_append]
  exact TupsAt.app t h
theorem NRows.at {H : Hp} {bs : List Addr} {ps : List (List Nat)} (t : NRows H bs ps) {i : Nat} {p : List Nat} (h : ps[i]? = some p) : ∃ a, bs[i]? = some a ∧ H a = some (.tup (nvs p)) := t.2 i _ (by rw [List.getElem?_map, h]; rfl)
def Lz (Q : VK) (vs : List V) (H1 : Hp) : Prop := ∃ a b xs ys, vs = [.ref a, .ref b] ∧ H1 a = some (.tup xs) ∧ H1 b = some (.tup ys) ∧ xs.length < 1000 ∧
  ∀ q H2 acc, H1 q = none → H2 q = some (.lst (acc.map V.ref)) → (∀ c u, H1 c = some u → H2 c = some u) → ZPairs H1 xs ys acc H2 → acc.length = min xs.length ys.length → Q (.ref q) H2
theorem rd_lz {K : PySem.W.Frag} {ta : TA} {σ : L2.St} {H : Hp} {Q : VK} (q : ta σ H fun vs H1 => Lz Q vs H1) : tLz K ta σ H Q := q
theorem rd_ninT {K : PySem.W.Frag} {H : Hp} {Q : VK} {p : Addr} {xs : List V} {x : V} (h : H p = some (.tup xs)) (fx : flatV x = true) (fs : xs.all flatV = true) (q : Q (.bl (!inV x xs)) H) : rIn K true x (.ref p) H Q := ⟨p, xs, rfl, .inr (SqT.of h), fx, fs, q⟩
/-! a comprehension with two clauses over a list of tuples -/
def Lc2 (J : It) (g : TG) (tt : TT) (wi1 : TI) (g1 : TG) (tt1 : TT) (te : TE) (vs vs1 : List Nat) (σ : L2.St) (H1 : Hp) (Q : VK) : Prop := ∀ D, H1 D = none → ∃ W : Nat → Nat → Hp → Prop, (∃ m, W 0 m (upd H1 D (.lst []))) ∧ ∀ i m H, W i m H →
  (J.stop i H ∧ Q (.ref D) H) ∨ (J.go i H ∧ ∃ Nx : Hp → Prop, (∀ H', Nx H' → ∃ m', m' < m ∧ W (i + 1) m' H') ∧ ∀ x H', J.yld i H x H' → g x (wipe σ vs) H' fun σ2 H2 => wipe σ2 vs = wipe σ vs ∧ tt σ2 H2 fun b H3 =>
    if b = true then wi1 σ2 H3 fun J1 H4 => ∃ W1 : Nat → Nat → Hp → Prop, (∃ m, W1 0 m H4) ∧ ∀ j k H, W1 j k H →
      (J1.stop j H ∧ Nx H) ∨ (J1.go j H ∧ ∃ Nx1 : Hp → Prop, (∀ H', Nx1 H' → ∃ k', k' < k ∧ W1 (j + 1) k' H') ∧ ∀ x H', J1.yld j H x H' → g1 x (wipe σ2 vs1) H' fun σ3 H5 => wipe σ3 vs1 = wipe σ2 vs1 ∧ tt1 σ3 H5 fun b H6 =>
        if b = true then te σ3 H6 fun y H7 => ∃ acc, H7 D = some (.lst acc) ∧ acc.length < sizeLine ∧ Nx1 (upd H7 D (.lst (acc ++ [y]))) else Nx1 H6)
    else Nx H3)
theorem rd_lc2 {wi wi1 : TI} {g g1 : TG} {tt tt1 : TT} {te : TE} {vs vs1 : List Nat} {σ : L2.St} {H : Hp} {Q : VK} (q : wi σ H fun J H1 => Lc2 J g tt wi1 g1 tt1 te vs vs1 σ H1 Q) : tLc2 wi g tt wi1 g1 tt1 te vs vs1 σ H Q := q
theorem lc2_rows {K : PySem.W.Frag} {tl : Addr} {bs : List Addr} {rows : List (List V)} {g g1 : TG} {wi1 : TI} {te : TE} {vs vs1 : List Nat} {σ : L2.St} {H0 : Hp} {Q : VK} (s2 : Addr → L2.St) (s3 : Addr → V → L2.St)
    (hl : H0 tl = some (.lst (bs.map V.ref))) (t : TupsAt H0 bs rows) (sm : rows.flatten.length < 1000)
    (w2 : ∀ b, wipe (s2 b) vs = wipe σ vs) (w3 : ∀ b v, wipe (s3 b v) vs1 = wipe (s2 b) vs1)
    (hg : ∀ b H (R : L2.St → Hp → Prop), R (s2 b) H → g (.ref b) (wipe σ vs) H R) (hw : ∀ b H (R : It → Hp → Prop) xs, H b = some (.tup xs) → R (Itt K b) H → wi1 (s2 b) H R)
    (hg1 : ∀ b v H (R : L2.St → Hp → Prop), R (s3 b v) H → g1 v (wipe (s2 b) vs1) H R) (ht : ∀ b v H (R : VK), R v H → te (s3 b v) H R)
    (q : ∀ H2 D, Same H0 H2 → H0 D = none → H2 D = some (.lst rows.flatten) → Q (.ref D) H2) : Lc2 (Itl K tl) g tYes wi1 g1 tYes te vs vs1 σ H0 Q := by
  intro D nD
  have lb := t.1
  refine ⟨fun i m H => Same H0 H ∧ H D = some (.lst (rows.take i).flatten) ∧ m + i = rows.length, ⟨rows.length, same_new (Same.refl _) nD, upd_same, rfl⟩, ?_⟩
  rintro i m H ⟨S, hD, hm⟩
  by_cases hi : i < rows.length
  · refine .inr ⟨(walk_list (K := K) (a := tl) (xs := bs.map V.ref)).goes i H (by rw [List.length_map]; omega) (SqL.of (S _ _ hl)), fun H' => Same H0 H' ∧ H' D = some (.lst (rows.take (i + 1)).flatten), fun H' z => ⟨m - 1, by omega, z.1, z.2, by omega⟩, fun x H' y => ?_⟩
    obtain ⟨rfl, ex⟩ := (walk_list (K := K) (a := tl) (xs := bs.map V.ref)).yields i H x H' (by rw [List.length_map]; omega) (SqL.of (S _ _ hl)) y
    have er : rows[i]? = some rows[i] := List.getElem?_eq_getElem hi
    obtain ⟨b, e1, e2⟩ := (t.same S).2 i _ er
    rw [List.getElem?_map, e1] at ex
    cases ex
    have tk : (rows.take (i + 1)).flatten = (rows.take i).flatten ++ rows[i] := by rw [List.take_succ, er, List.flatten_append]; simp
    have le : (rows.take i).flatten.length + rows[i].length ≤ rows.flatten.length := by
      have z : rows = rows.take (i + 1) ++ rows.drop (i + 1) := (List.take_append_drop _ _).symm
      have z2 : rows.flatten.length = ((rows.take (i + 1)) ++ (rows.drop (i + 1))).flatten.length := by rw [← z]
      rw [List.flatten_append, List.length_append, tk, List.length_append] at z2
      omega
    refine hg b _ _ ⟨w2 b, ?_⟩
    unfold tYes
    dsimp only
    rw [if_pos rfl]
    refine hw b H' _ rows[i] e2 ?_
    refine ⟨fun j k G => Same H0 G ∧ G D = some (.lst ((rows.take i).flatten ++ rows[i].take j)) ∧ G b = some (.tup rows[i]) ∧ k + j = rows[i].length, ⟨rows[i].length, S, by rw [List.take_zero, List.append_nil]; exact hD, e2, rfl⟩, ?_⟩
    rintro j k G ⟨SG, hDG, hbG, hk⟩
    by_cases hj : j < rows[i].length
    · refine .inr ⟨(walk_tup (K := K) (a := b) (xs := rows[i])).goes j G hj (SqT.of hbG), fun H5 => Same H0 H5 ∧ H5 D = some (.lst ((rows.take i).flatten ++ rows[i].take (j + 1))) ∧ H5 b = some (.tup rows[i]), fun H5 z => ⟨k - 1, by omega, z.1, z.2.1, z.2.2, by omega⟩, fun x H5 y5 => ?_⟩
      obtain ⟨rfl, ex5⟩ := (walk_tup (K := K) (a := b) (xs := rows[i])).yields j G x H5 hj (SqT.of hbG) y5
      refine hg1 b x _ _ ⟨w3 b x, ?_⟩
      try unfold tYes
      try dsimp only
      rw [if_pos rfl]
      refine ht b x _ _ ⟨_, hDG, ?_, same_mut SG nD, ?_, ?_⟩
      · rw [List.length_append, List.length_take, sizeLine_eq]
        omega
      · rw [upd_same, List.take_succ, ex5, List.append_assoc]
        rfl
      · rw [upd_ne (fun e => by rw [e, hDG] at hbG; cases hbG)]
        exact hbG
    · refine .inl ⟨?_, SG, ?_⟩
      · have := (walk_tup (K := K) (a := b) (xs := rows[i])).stops G (SqT.of hbG)
        rw [show j = rows[i].length by omega]
        exact this
      · rw [tk]
        rw [show rows[i].take j = rows[i] from List.take_of_length_le (by omega)] at hDG
        exact hDG
  · refine .inl ⟨?_, ?_⟩
    · have := (walk_list (K := K) (a := tl) (xs := bs.map V.ref)).stops H (SqL.of (S _ _ hl))
      rw [List.length_map, lb] at this
      rw [show i = rows.length by omega]
      exact this
    · rw [List.take_of_length_le (by omega)] at hD
      exact q H D S nD hD
end Rv
/-! no log of copies to a goal is shorter than the blocks that change and the closed rings together (for k34) -/
namespace RL
variable {gs : List Int}
end RL
/-! {t: v}, t a tuple -/
namespace Rv
open PySem PySem.Spec PyProof.Rows L2
section
variable {X : Cx} {k v : Expr} {tk tv : TE} {pos : Pos}
end
end Rv
/-! the search by breadth of k34: the least number of copies to each image -/
namespace RL
def Reach (n k : Nat) (im : List Nat) : Prop := ∃ qs : List (Nat × Nat), qs.length = k ∧ (∀ q ∈ qs, q.1 < n ∧ q.2 < n) ∧ im = (List.range n).map (run id qs)
theorem Reach.len {n k : Nat} {im : List Nat} (h : Reach n k im) : im.length = n := by
  obtain ⟨_, _, _, e⟩ := h
  rw [e, List.length_map, List.length_range]
/-! the least number of a goal -/
end RL
/-! a tuple that is known to have no dict as a key -/
namespace Rv
open PySem PySem.Spec PyProof.Rows L2
section
variable {X : Cx} {i o : Expr} {ty td : TE} {pos : Pos}
end
/-! t + u, empty ones too -/
end Rv
/-! the table of k34: images and numbers -/
namespace Rv
open PySem PySem.Spec PyProof.Rows L2 RL
theorem niz_inj {a b : List Nat} (h : niz a = niz b) : a = b := by
  unfold niz at h
  exact List.map_inj_right (f := fun x : Nat => (x : Int)) (fun x y e => Int.ofNat.inj e) |>.mp h
end Rv
/-! the mathematics of k36: steps between images -/
namespace RS
open RL
/-! copies -/
/-! logs -/
/-! all images -/
end RS
/-! for k36: dicts of images, list(d), zip of two tuples, rows by two clauses -/
namespace Rv
open PySem PySem.Spec PyProof.Rows L2 RL RS
section
variable {H H' : Hp} {d b l : Addr} {ks : List (List Nat)} {x : List Nat} {Q : VK} {R : Hp → Prop} {v : V} {o : HO}
/-! list(d) -/
end
/-! zip of two tuples -/
section
variable {K : PySem.W.Frag} {σ : L2.St} {H : Hp} {a b : Addr} {xs ys : List V} {R : It → Hp → Prop}
def ZpA (K : PySem.W.Frag) (R : It → Hp → Prop) (vs : List V) (H1 : Hp) : Prop := ∃ a b xs ys, vs = [.ref a, .ref b] ∧ ((SqL K H1 a xs ∧ SqL K H1 b ys ∧ R (Itz K a b) H1) ∨ (SqT K H1 a xs ∧ SqT K H1 b ys ∧ R (RZ.ItzT K a b) H1))
theorem pi_zpA {X : Cx} {e e2 : Expr} {ta : TA} {p pos tpos : Pos} {elts : List Expr} {kk : Nat} (hK : X.K = K) (hg : Gl X "zip") (hm : X.mg "zip" = none) (ha : PA X [e, e2] ta)
    (hs : starEach [e, e2] X.env = (false, eval e X.env) :: starEach [e2] X.env := by rfl) (hpl : (backTo pos (starEach [e2] X.env)).any (·.1) = false := by rfl) :
    PI X (.Tuple elts kk tpos) (.Call (.Name "zip" p) [e, e2] [] pos) (RZ.iZipA K ta) := by
  subst hK
  exact RZ.pi_zipA hg hm ha hs hpl
theorem rd_iZpA {ta : TA} (q : ta σ H fun vs H1 => ZpA K R vs H1) : RZ.iZipA K ta σ H R := q
theorem walk_zipT {n : Nat} (hn : n = min xs.length ys.length) : Walk (RZ.ItzT K a b) n (fun H => SqT K H a xs ∧ SqT K H b ys) (YPair (fun i => xs[i]?) (fun i => ys[i]?)) := by
  subst hn
  refine ⟨fun i _ hi q => ?_, fun _ q => ⟨xs, ys, q.1, q.2, by omega⟩, fun i H v H' _ q y => ?_⟩
  · have h1 : i < xs.length := by omega
    have h2 : i < ys.length := by omega
    exact ⟨xs, ys, xs[i], ys[i], q.1, q.2, by simp [h1], by simp [h2]⟩
  · obtain ⟨T, x, y, h1, h2, h3, h4, h5⟩ := y
    exact ⟨T, x, y, h1, h2, h3, h4 _ q.1, h5 _ q.2⟩
end
/-! a comprehension over rows and numbers -/
end Rv
/-! for k36: equality of images, common places, filters, what a helper leaves -/
namespace Rv
open PySem PySem.Spec PyProof.Rows L2 RL RS
theorem eqv_intsT : ∀ (a b : List Int), PyData.eqv (.tuple (a.map PyData.int)) (.tuple (b.map PyData.int)) = decide (a = b)
  | [], [] => rfl
  | [], _ :: _ => rfl
  | _ :: _, [] => rfl
  | x :: r, y :: t => by
    have ih := eqv_intsT r t
    have e : PyData.eqv (.tuple ((x :: r).map PyData.int)) (.tuple ((y :: t).map PyData.int)) = (decide (x = y) && PyData.eqv (.tuple (r.map PyData.int)) (.tuple (t.map PyData.int))) := rfl
    rw [e, ih, Bool.eq_iff_iff, Bool.and_eq_true, decide_eq_true_eq, decide_eq_true_eq, decide_eq_true_eq, List.cons.injEq]
theorem shT (xs : List Int) : SeqAt.shaped (.tuple (xs.map PyData.int)) = true := by
  obtain ⟨a1, a2⟩ := lay_ints xs
  unfold SeqAt.shaped
  rw [Bool.and_eq_true]
  refine ⟨a1, decide_eq_true ?_⟩
  show PyData.depthAll (xs.map PyData.int) + 1 ≤ 64
  omega
/-! common places -/
/-! filters -/
noncomputable def cd (p : Prop) : Bool := @decide p (Classical.propDecidable p)
theorem cd_iff {p : Prop} : cd p = true ↔ p := @decide_eq_true_iff p (Classical.propDecidable p)
theorem cd_t {p : Prop} (h : p) : cd p = true := cd_iff.mpr h
theorem cd_f {p : Prop} (h : ¬ p) : cd p = false := Bool.eq_false_iff.mpr fun z => h (cd_iff.mp z)
noncomputable def flt (P : List Nat → Prop) (L : List (List Nat)) : List (List Nat) := L.filter fun x => cd (P x)
theorem mem_flt {P : List Nat → Prop} {L : List (List Nat)} {x : List Nat} : x ∈ flt P L ↔ x ∈ L ∧ P x := by
  unfold flt
  rw [List.mem_filter, cd_iff]
theorem flt_yes {P : List Nat → Prop} {L : List (List Nat)} {i : Nat} {r : List Nat} (e : L[i]? = some r) (h : P r) : flt P (L.take (i + 1)) = flt P (L.take i) ++ [r] := by
  unfold flt
  rw [List.take_succ, e, List.filter_append]
  congr 1
  show List.filter _ [r] = [r]
  rw [List.filter_cons, if_pos (cd_t h)]
  rfl
theorem flt_no {P : List Nat → Prop} {L : List (List Nat)} {i : Nat} {r : List Nat} (e : L[i]? = some r) (h : ¬ P r) : flt P (L.take (i + 1)) = flt P (L.take i) := by
  unfold flt
  rw [List.take_succ, e, List.filter_append]
  show _ ++ List.filter _ [r] = _
  rw [List.filter_cons, if_neg (by rw [cd_f h]; exact Bool.false_ne_true), List.filter_nil, List.append_nil]
theorem flt_len (P : List Nat → Prop) (L : List (List Nat)) : (flt P L).length ≤ L.length := List.length_filter_le ..
/-- a comprehension over rows with a test, told by lc_acc2 -/
theorem flt_acc {K : PySem.W.Frag} {l : Addr} {bs : List Addr} {L : List (List Nat)} {g : TG} {tt : TT} {te : TE} {vs : List Nat} {σ : L2.St} {H0 : Hp} {Q : VK} (P : List Nat → Prop) (hl : H0 l = some (.lst (bs.map V.ref))) (t : NRows H0 bs L) (sm : L.length ≤ 256)
    (hs : ∀ b r H (Qc : VK) (R : Hp → Prop), r ∈ L → Same H0 H → H b = some (.tup (nvs r)) → (P r → ∀ H4, Same H H4 → Qc (.ref b) H4) → (¬ P r → ∀ H4, Same H H4 → R H4) →
      g (.ref b) (wipe σ vs) H fun σ2 H2 => wipe σ2 vs = wipe σ vs ∧ tt σ2 H2 fun c H3 => if c = true then te σ2 H3 Qc else R H3)
    (hd : ∀ H D cs, Same H0 H → H0 D = none → H D = some (.lst (cs.map V.ref)) → NRows H cs (flt P L) → Q (.ref D) H) : Lc (Itl K l) g tt te vs σ H0 Q := by
  have lb := NRows.len t
  refine lc_acc2 (walk_list (xs := bs.map V.ref)) (fun i acc H' => ∃ cs, acc = cs.map V.ref ∧ NRows H' cs (flt P (L.take i))) ⟨[], rfl, by rw [List.take_zero]; exact TupsAt.nil⟩ (fun i acc Ha Hb k pp => by obtain ⟨bs, e1, e2⟩ := pp; exact ⟨bs, e1, e2.kt k⟩) (fun i acc H' hi pp => by
    obtain ⟨cs, rfl, e2⟩ := pp
    have h1 := NRows.len e2
    have h2 := flt_len P (L.take i)
    rw [List.length_take] at h2
    rw [List.length_map]
    omega) (fun H' S => SqL.of (S _ _ hl)) ?_ ?_
  · rintro i x Hx Hy acc Qc R hi Sx ⟨cs, rfl, tc⟩ ⟨rfl, ex⟩ qc rc
    rw [List.length_map] at hi
    have er : L[i]? = some L[i] := List.getElem?_eq_getElem (by omega)
    obtain ⟨b, e1, e2⟩ := NRows.at (t.same Sx) er
    rw [List.getElem?_map, e1] at ex
    cases ex
    refine hs b L[i] _ Qc R (List.getElem_mem (by omega)) Sx e2 (fun h H4 S4 => ?_) (fun h H4 S4 => ?_)
    · refine qc _ _ S4 ⟨cs ++ [b], by rw [List.map_append]; rfl, ?_⟩
      rw [flt_yes er h]
      exact (tc.same S4).snoc (S4 _ _ e2)
    · refine rc _ S4 ⟨cs, rfl, ?_⟩
      rw [flt_no er h]
      exact tc.same S4
  · rintro H3 D acc S nD hD ⟨cs, rfl, tc⟩
    rw [List.length_map, lb, List.take_length] at tc
    exact hd H3 D cs S nD hD tc
/-! what a helper leaves that may change one list -/
end Rv
/-! own classes: facts, makers, methods, static methods, fields -/
namespace Rv
open PySem PySem.Spec PyProof.Rows L2
/-- its maker -/
structure IDef (K : PySem.W.Frag) (C : Addr) (qual : Str) (st : Stmt) (ps : List Str) (f : Addr) (fd : FuncData) : Prop where
  F : Fun K "__init__" qual st f fd
  b : Binds K fd ps []
  mkr : L2.Mk K C f
/-- a method -/
structure MDef (K : PySem.W.Frag) (C : Addr) (m qual : Str) (st : Stmt) (ps : List Str) (f : Addr) (fd : FuncData) : Prop where
  F : Fun K m qual st f fd
  b : Binds K fd ps []
  m : Meth K C m f
/-- a static method -/
structure SMet (K : PySem.W.Frag) (C : Addr) (m : Str) (p g : Addr) : Prop where
  ga : PySem.W.specialIn K (.ref C) "__getattribute__" = some (some (.builtin "type.__getattribute__"))
  rd : PySem.W.readsIn K C (.type "type") = true
  at_ : PySem.W.findCls K (.ref C) (.type "type") m = some (.get (.builtin "staticmethod.__get__") (.ref p) .none (.ref C))
  rc : ∃ rest, PySem.W.recIn K p "staticmethod" = some (.ref g :: rest)
  kp : PySem.W.keepIn K (.ref g) = true
structure SDef (K : PySem.W.Frag) (C : Addr) (m qual : Str) (st : Stmt) (ps : List Str) (f : Addr) (fd : FuncData) : Prop where
  F : Fun K m qual st f fd
  b : Binds K fd ps []
  s : ∃ p, SMet K C m p f
section
variable {X : Cx} {CX : CXT} {k : Nat} {f C p g : Addr} {fd : FuncData} {ps : List Str} {sp : Sp} {E : XK} {m : Str} {pos apos : Pos} {e o : Expr} {es : List Expr} {ta : TE} {t : TA} {pl : Sem Bool}
end
section
variable {K : PySem.W.Frag} {mg : Str → Option Value} {σ : L2.St} {H : Hp} {Q : VK} {C a dx : Addr} {fs : List (Str × V)} {f m : Str} {v : V} {sp : Sp} {E : XK} {ta tv : TE} {t : TA}
/-! readings -/
end
end Rv
/-! sorted(t), t a tuple of whole numbers -/
namespace Rv
open PySem PySem.Spec PyProof.Rows L2 PySem.Calls
section
variable {prog : Program} {w : World} {A : Around} {E : Value → Shared → Prop} {s : Shared}
theorem gatherT {tp : Addr} {us : List Value} {Q : List Value → Shared → Prop} (it : IsTup s.heap tp us.toArray) (few : us.length ≤ 1000)
    (k : Q us { s with heap := (s.heap.push (seqObj "list" #[] 0)).update s.heap.objs.size (Obj.mapSeq (· ++ us.toArray)) }) :
    wpAny (model prog w) A (collect (.ref tp)) Q E s := by
  obtain ⟨ob, hob, hcl, m, hda⟩ := id it
  have room : us.length ≤ sizeLine := Nat.le_of_lt (small1000 few)
  unfold collect
  refine wpAny_bind (wpAny_runValue (codeAny_builtin entry_proto_collect' ?_))
  show wpAny (model prog w) _ (do again (.builtin "list.__iadd__" ⟨[← newList [], .ref tp], []⟩)) _ _ s
  refine wpAny_bind (wpAny_newList (wpAny_pure ⟨Code.quiet_builtin _ (by decide +kernel), codeAny_builtin entry_list_iadd' ?_⟩))
  have hob2 : (s.heap.push (seqObj "list" #[] 0)).get? tp = some ob := Heap.get?_push_of_some _ hob
  show wpAny (model prog w) _ (Builtin.List.listExtendWith (.ref s.heap.objs.size) (.ref tp) (.ref s.heap.objs.size)) _ _ { s with heap := s.heap.push (seqObj "list" #[] 0) }
  unfold Builtin.List.listExtendWith
  have isT : (Value.type "tuple" == Value.type "tuple") = true := rfl
  refine wpAny_bind (wpAny_typeOf (T := "tuple") ⟨ob, hob2, hcl⟩ ?_)
  rw [if_pos (by rw [isT, Bool.or_true])]
  refine wpAny_bind (listItems_at hob2 hda ?_)
  refine wpAny_bind (listItems_at (n := 0) (xs := #[]) (Heap.get?_push_size _ rfl) rfl ?_)
  rw [if_neg (by simp)]
  have grow : ((#[] : Array Value) ++ us.toArray).size ≤ sizeLine + 1 := by simp only [Array.size_append, List.size_toArray, List.length_nil]; omega
  refine wpAny_bind (listUpdate_at (n := 0) (xs := #[]) (Heap.get?_push_size _ rfl) rfl ?_ (Nat.zero_le _) grow)
  refine wpAny_pure ?_
  have got := get?_update_seq (Heap.get?_push_size (o := seqObj "list" #[] 0) s.heap rfl) (· ++ us.toArray)
  show wpAny (model prog w) A (do
      let ob ← load s.heap.objs.size
      match ob.data with
      | .seq zs _ => pure zs.toList
      | _ => unsupported "internal:collect") Q E { s with heap := (s.heap.push (seqObj "list" #[] 0)).update s.heap.objs.size (Obj.mapSeq (· ++ us.toArray)) }
  refine wpAny_bind (wpAny_load (get?_update_seq (Heap.get?_push_size _ rfl) _) ?_)
  show wpAny (model prog w) A (pure ((#[] : Array Value) ++ us.toArray).toList) Q E _
  rw [show ((#[] : Array Value) ++ us.toArray).toList = us by simp]
  exact wpAny_pure k
theorem sortT {tp : Addr} {us : List Value} {ns : List Int} {Q : Value → Shared → Prop} (it : IsTup s.heap tp us.toArray) (num : IntsAre us ns) (few : us.length < 64)
    (k : ∀ (out : Array Value) (ms : List Int), IntsAre out.toList ms → ms.Perm ns → ms.Pairwise (· ≤ ·) → Q (.ref (s.heap.objs.size + 1)) { s with heap := sortedAll s.heap us out }) :
    wpAny (model prog w) A (call (.builtin "sorted") [.ref tp]) Q E s := by
  refine call_function_entry kind_sorted plain_sorted entry_sorted (args_sorted1 _) ?_
  unfold Builtin.«sorted»
  refine wpAny_bind (m := checkCount "sorted" 1 1 _) (wpAny_pure (wpAny_bind (gatherT it (by omega) (wpAny_bind (wpAny_newList ?_)))))
  have size1 : ((s.heap.push (seqObj "list" #[] 0)).update s.heap.objs.size (Obj.mapSeq (· ++ us.toArray))).objs.size = s.heap.objs.size + 1 := by
    rw [Heap.size_update, size_push']
  have at1 := Heap.get?_push_size ((s.heap.push (seqObj "list" #[] 0)).update s.heap.objs.size (Obj.mapSeq (· ++ us.toArray))) (o := seqObj "list" us.toArray 0) rfl
  rw [size1] at at1
  show wpAny (model prog w) _ _ _ _ { s with heap := ((s.heap.push (seqObj "list" #[] 0)).update s.heap.objs.size (Obj.mapSeq (· ++ us.toArray))).push (seqObj "list" us.toArray 0) }
  rw [size1]
  refine wpAny_bind (wpAny_holding (wpAny_call_entry slot_list_sort ⟨_, at1, rfl⟩ entry_list_sort (list_sort_tree at1 num few fun out ms b1 b2 b3 => ⟨_, rfl, ?_⟩) (args_list_sort _)))
  exact wpAny_pure ⟨_, rfl, k out ms b1 b2 b3⟩
end
end Rv
/-! the mathematics of k07: steps of Lagging, Workers, Machine -/
namespace RM
end RM
/-! for k07: how steps, specs and rules lie in the heap; a box of draws with two lists -/
namespace Rv
open PySem PySem.Spec PyProof.Rows L2 RM
/-! what never changes stays -/
section
variable {H H' H1 H2 : Hp} {p a : Addr} {o x : HO} {xs : List V} {gs : List Int} {B : Box}
end
/-! steps; a state is a tuple whose object is known -/
section
variable {K : PySem.W.Frag} {H H' : Hp} {p : Addr} {s : Stp} {ps qs : List Addr} {ss ts : List Stp}
end
/-! specs -/
/-! rules; M: what may change elsewhere -/
/-! the box: numbers, great ones, a great one that is used up, a count -/
section
variable {b c g : Addr} {ns gs : List Int} {n1 : b ≠ c} {n2 : g ≠ c} {n3 : b ≠ g} {H H' : Hp} {bu ct : Int}
end
end Rv
/-! t * 1 -/
namespace Rv
open PySem PySem.Spec PyProof.Rows L2
/-! tuples whose object is known -/
/-- t.index(k) -/
def tTix (to te : TE) : TE := fun σ H Q => to σ H fun x H1 => ∃ p ns, x = .ref p ∧ GT H1 p ns ∧ te σ H1 fun y H2 => ∃ k, [y] = [V.int k] ∧ GT H2 p ns ∧ k ∈ ns ∧ Q (.int (ns.idxOf k : Nat)) H2
def rTIxQ (K : PySem.W.Frag) : V → List V → Hp → VK → Prop := fun x xs H Q => ∃ (p : Addr) (ns : List Int) (k : Int), x = .ref p ∧ xs = [.int k] ∧ SqT K H p (ns.map V.int) ∧ k ∈ ns ∧ Q (.int (ns.idxOf k : Nat)) H
theorem mt_tIxQ {X : Cx} : MtR X "tuple.index" (rTIxQ X.K) := by
  intro pins s σ H x xs v us Q I rx rs h
  obtain ⟨p, ns, k, rfl, rfl, hs, hk, q⟩ := h
  cases rx
  obtain ⟨u, rfl, ru⟩ := rs.one
  obtain ⟨t, rfl⟩ := ru
  obtain ⟨its, rv, tp, _⟩ := I.tuple hs
  exact PySem.SeqAt.tuple_index_ints (show s.heap.IsTuple p its.toArray from tp) (ints_of_vals rv) hk ⟨.int (ns.idxOf k : Nat), H, I.tok _, ⟨_, rfl⟩, q⟩
theorem pe_tix {X : Cx} {o e : Expr} {to te : TE} {apos cpos : Pos} (ho : PE X o to) (he : PE X e te)
    (h1 : attributeBase o "index" X.env (eval o X.env) = eval o X.env := by rfl)
    (h2 : ((backTo cpos (starEach [e] X.env)).all (fun x => !x.1) && (backToKw cpos (keywordEach [] X.env)).all (fun x => x.1.isSome)
      && decide ([e].length + ([] : List Keyword).length + (if ([] : List Keyword).isEmpty then 0 else 1) < 30)) = true := by rfl)
    (h3 : (apos.endLine == cpos.line) = true := by rfl) (h4 : starEach [e] X.env = (false, eval e X.env) :: starEach [] X.env := by rfl) (h5 : (backTo cpos (starEach [] X.env)).any (·.1) = false := by rfl) :
    PE X (.Call (.Attribute o "index" apos) [e] [] cpos) (tTix to te) := by
  refine ⟨fun pins s σ H Q I h => ?_⟩
  refine wpAny_Call_method_late h1 h2 h3 rfl (thn (ho.run pins s σ H _ I h) fun v s1 ⟨x, H1, I1, r1, p, ns, ex, gp, q1⟩ => ?_)
  subst ex
  cases r1
  obtain ⟨ob, hb, hd⟩ := id gp
  obtain ⟨ho1, _, its, rv, o2, ho2, hc2, n2, hd2⟩ := (show ObjOk X.prog X.w H1 s1.heap p (.frz ob (.tup (ns.map V.int))) from I1.hok p _ hb)
  rw [ho1] at ho2
  cases ho2
  refine ⟨"tuple", _, PySem.F.plainAttrs_tuple, PySem.F.slot_tuple_index, PySem.F.type_tuple_index, ⟨_, ho1, hc2⟩, fun a ea => by cases ea; exact ⟨_, ho1, hd⟩, ?_⟩
  have ha : PA X [e] (tCons te tNil) := pa_cons he pa_nil (hs := h4)
  have hA := ha.run cpos pins s1 σ H1 (fun vs H2 => ∃ k, vs = [.int k] ∧ GT H2 p ns ∧ k ∈ ns ∧ Q (.int (ns.idxOf k : Nat)) H2) I1 q1
  rw [h4] at hA ⊢
  refine Calls.callWith_builtin (by show (false || (backTo cpos (starEach [] X.env)).any (·.1)) = false; rw [h5] <;> rfl) (Calls.evalArgs_plain ?_)
  exact thn hA fun us s2 ⟨vs, H2, I2, r2, k, ev, g2, hk, q2⟩ => mt_tIxQ pins s2 σ H2 (.ref p) vs (.ref p) us Q I2 rfl r2 ⟨p, ns, k, rfl, ev, g2.sq, hk, q2⟩
section
variable {K : PySem.W.Frag} {w : World} {H : Hp} {Q : VK} {p : Addr} {gs ns : List Int} {σ : L2.St}
end
end Rv
/-! the mathematics of rename pairs: chains, rings, what moves -/
namespace RQ
open RL
def full (l : List Int) : List Int := l.filter fun x => !decide (x = -1)
theorem mem_full {l : List Int} {x : Int} : x ∈ full l ↔ x ∈ l ∧ x ≠ -1 := by
  unfold full
  rw [List.mem_filter]
  simp
theorem inj_of : ∀ (l : List Int), (full l).Nodup → ∀ (i j : Nat) (x : Int), l[i]? = some x → l[j]? = some x → x ≠ -1 → i = j
  | [], _, i, _, _, h, _, _ => by simp at h
  | y :: r, nd, 0, 0, _, _, _, _ => rfl
  | y :: r, nd, 0, j + 1, x, h1, h2, nx => by
    cases h1
    have m : y ∈ full r := mem_full.mpr ⟨List.mem_of_getElem? h2, nx⟩
    unfold full at nd
    rw [List.filter_cons_of_pos (by simpa using nx)] at nd
    exact absurd m (List.nodup_cons.mp nd).1
  | y :: r, nd, i + 1, 0, x, h1, h2, nx => by
    cases h2
    have m : y ∈ full r := mem_full.mpr ⟨List.mem_of_getElem? h1, nx⟩
    unfold full at nd
    rw [List.filter_cons_of_pos (by simpa using nx)] at nd
    exact absurd m (List.nodup_cons.mp nd).1
  | y :: r, nd, i + 1, j + 1, x, h1, h2, nx => by
    have nd2 : (full r).Nodup := by
      unfold full at nd ⊢
      rw [List.filter_cons] at nd
      split at nd
      · exact (List.nodup_cons.mp nd).2
      · exact nd
    rw [inj_of r nd2 i j x h1 h2 nx]
structure Ren (es fs : List Int) : Prop where
  pm : es.Perm fs
  nd : (full es).Nodup
section
variable {es fs : List Int}
theorem Ren.len (R : Ren es fs) : es.length = fs.length := R.pm.length_eq
theorem Ren.swap (R : Ren es fs) : Ren fs es := ⟨R.pm.symm, (R.pm.filter _).nodup_iff.mp R.nd⟩
theorem get_at {l : List Int} {i : Nat} (h : i < l.length) : l[i]? = some (l.getD i 0) := by
  rw [List.getD_eq_getElem?_getD, List.getElem?_eq_getElem h]; rfl
theorem mem_at {l : List Int} {i : Nat} (h : i < l.length) : l.getD i 0 ∈ l := List.mem_of_getElem? (get_at h)
theorem at_idx {l : List Int} {x : Int} (h : x ∈ l) : l.idxOf x < l.length ∧ l.getD (l.idxOf x) 0 = x := by
  have hl := List.idxOf_lt_length_iff.mpr h
  refine ⟨hl, ?_⟩
  rw [List.getD_eq_getElem?_getD, List.getElem?_eq_getElem hl, List.getElem_idxOf hl]; rfl
theorem Ren.inj (R : Ren es fs) {i j : Nat} (hi : i < es.length) (hj : j < es.length) (e : es.getD i 0 = es.getD j 0) (n : es.getD i 0 ≠ -1) : i = j :=
  inj_of es R.nd i j _ (get_at hi) (by rw [e]; exact get_at hj) n
theorem Ren.injF (R : Ren es fs) {i j : Nat} (hi : i < es.length) (hj : j < es.length) (e : fs.getD i 0 = fs.getD j 0) (n : fs.getD i 0 ≠ -1) : i = j :=
  R.swap.inj (by rw [← R.len]; exact hi) (by rw [← R.len]; exact hj) e n
/-- where the value that lies there after lies before -/
def G (es fs : List Int) (b : Nat) : Nat := if fs.getD b 0 = -1 then b else es.idxOf (fs.getD b 0)
theorem Ren.to (R : Ren es fs) {b : Nat} (hb : b < es.length) (n : fs.getD b 0 ≠ -1) : G es fs b < es.length ∧ es.getD (G es fs b) 0 = fs.getD b 0 := by
  unfold G
  rw [if_neg n]
  exact at_idx (R.pm.mem_iff.mpr (mem_at (by rw [← R.len]; exact hb)))
theorem Ren.lt (R : Ren es fs) : ∀ b, b < es.length → G es fs b < es.length := fun b hb => by
  by_cases n : fs.getD b 0 = -1
  · unfold G; rw [if_pos n]; exact hb
  · exact (R.to hb n).1
structure Ar (es fs : List Int) (a b : Nat) : Prop where
  l1 : a < es.length
  l2 : b < es.length
  ne : a ≠ b
  fu : fs.getD a 0 ≠ -1
  eq : fs.getD a 0 = es.getD b 0
theorem Ar.swap (R : Ren es fs) {a b : Nat} (h : Ar es fs a b) : Ar fs es b a := ⟨by rw [← R.len]; exact h.l2, by rw [← R.len]; exact h.l1, h.ne.symm, by rw [← h.eq]; exact h.fu, h.eq.symm⟩
theorem Ar.left (R : Ren es fs) {a b c : Nat} (h : Ar es fs a b) (k : Ar es fs c b) : a = c := R.injF h.l1 k.l1 (h.eq.trans k.eq.symm) h.fu
theorem Ar.right (R : Ren es fs) {a b : Nat} (h : Ar es fs a b) : G es fs a = b := by
  obtain ⟨k1, k2⟩ := R.to h.l1 h.fu
  exact R.inj k1 h.l2 (k2.trans h.eq) (by rw [k2]; exact h.fu)
theorem Ren.ar (R : Ren es fs) {a : Nat} (ha : a < es.length) (n : fs.getD a 0 ≠ -1) (ne : G es fs a ≠ a) : Ar es fs a (G es fs a) := ⟨ha, (R.to ha n).1, fun e => ne e.symm, n, (R.to ha n).2.symm⟩
theorem Ren.ar2 (R : Ren es fs) {a : Nat} (ha : a < es.length) (ne : G es fs a ≠ a) : Ar es fs a (G es fs a) := R.ar ha (fun n => ne (by unfold G; rw [if_pos n])) ne
/-- a way: each step is an arrow -/
theorem way_ar (R : Ren es fs) {b : Nat} {p : List Nat} (P : Pth (G es fs) es.length b p) {i x y : Nat} (h1 : p[i]? = some x) (h2 : p[i + 1]? = some y) : Ar es fs x y := by
  have e := P.st i x y h1 h2
  have ne : x ≠ y := fun z => by
    rw [← z] at h2
    have := nd_inj P.nd h1 h2
    omega
  rw [e] at ne ⊢
  exact R.ar2 (P.lt x (List.mem_of_getElem? h1)) ne.symm
def Fo (es fs : List Int) (b : Nat) : List Nat := F (G es fs) es.length b
theorem fo_p (R : Ren es fs) {b : Nat} (hb : b < es.length) : Pth (G es fs) es.length b (Fo es fs b) ∧ G es fs ((Fo es fs b).getLastD 0) ∈ Fo es fs b := F_end R.lt hb
theorem fo_closed (R : Ren es fs) {b : Nat} (hb : b < es.length) {x : Nat} (hx : x ∈ Fo es fs b) : G es fs x ∈ Fo es fs b := by
  obtain ⟨P, e⟩ := fo_p R hb
  obtain ⟨i, hi⟩ := List.getElem?_of_mem hx
  have li := (List.getElem?_eq_some_iff.mp hi).1
  by_cases z : i + 1 < (Fo es fs b).length
  · have e2 : (Fo es fs b)[i + 1]? = some (Fo es fs b)[i + 1] := List.getElem?_eq_getElem z
    rw [← P.st i x _ hi e2]
    exact List.getElem_mem z
  · have e2 := last_at P.ne
    rw [show (Fo es fs b).length - 1 = i by omega, hi] at e2
    rw [Option.some.inj e2]
    exact e
/-- how a way ends -/
theorem fo_end (R : Ren es fs) {b : Nat} (hb : b < es.length) : fs.getD ((Fo es fs b).getLastD 0) 0 = -1 ∨ (Fo es fs b = [b] ∧ es.getD b 0 = fs.getD b 0 ∧ fs.getD b 0 ≠ -1) ∨
    (1 < (Fo es fs b).length ∧ G es fs ((Fo es fs b).getLastD 0) = b ∧ fs.getD ((Fo es fs b).getLastD 0) 0 ≠ -1) := by
  obtain ⟨P, e⟩ := fo_p R hb
  have ll := P.lt _ (last_mem P.ne)
  by_cases n : fs.getD ((Fo es fs b).getLastD 0) 0 = -1
  · exact .inl n
  · have pl : 0 < (Fo es fs b).length := List.length_pos_iff.mpr P.ne
    have la := last_at P.ne
    obtain ⟨t1, t2⟩ := R.to ll n
    by_cases z : G es fs ((Fo es fs b).getLastD 0) = (Fo es fs b).getLastD 0
    · rw [z] at t2
      by_cases one : (Fo es fs b).length = 1
      · obtain ⟨c, hc⟩ := List.length_eq_one_iff.mp one
        have h0 := P.hd
        rw [hc] at h0 t2 n
        cases h0
        exact .inr (.inl ⟨hc, t2, n⟩)
      · have h1 : (Fo es fs b)[(Fo es fs b).length - 2]? = some (Fo es fs b)[(Fo es fs b).length - 2] := List.getElem?_eq_getElem (by omega)
        have A := way_ar R P h1 (by rw [show (Fo es fs b).length - 2 + 1 = (Fo es fs b).length - 1 by omega]; exact la)
        exact absurd (R.injF A.l1 A.l2 (A.eq.trans t2) A.fu) A.ne
    · have A := R.ar2 ll z
      obtain ⟨i, hi⟩ := List.getElem?_of_mem e
      have li := (List.getElem?_eq_some_iff.mp hi).1
      cases i with
      | zero =>
        have h0 := P.hd
        rw [hi] at h0
        have h1 := Option.some.inj h0
        refine .inr (.inr ⟨?_, h1, n⟩)
        by_cases one : (Fo es fs b).length = 1
        · rw [one] at la
          rw [hi] at la
          exact absurd (Option.some.inj la) z
        · omega
      | succ i =>
        have h1 : (Fo es fs b)[i]? = some (Fo es fs b)[i] := List.getElem?_eq_getElem (by omega)
        have B := way_ar R P h1 hi
        have e2 := B.left R A
        rw [e2] at h1
        have := nd_inj P.nd h1 la
        omega
def Ch (es fs : List Int) (b : Nat) : Prop := es.getD b 0 = -1 ∧ fs.getD b 0 ≠ -1
instance : Decidable (Ch es fs b) := by unfold Ch; exact inferInstance
theorem ch_end (R : Ren es fs) {b : Nat} (hb : b < es.length) (c : Ch es fs b) : fs.getD ((Fo es fs b).getLastD 0) 0 = -1 ∧ 1 < (Fo es fs b).length := by
  obtain ⟨P, _⟩ := fo_p R hb
  have pl : 0 < (Fo es fs b).length := List.length_pos_iff.mpr P.ne
  rcases fo_end R hb with h | ⟨_, h, _⟩ | ⟨_, h, n⟩
  · refine ⟨h, ?_⟩
    by_cases one : (Fo es fs b).length = 1
    · obtain ⟨x, hx⟩ := List.length_eq_one_iff.mp one
      have h0 := P.hd
      rw [hx] at h0 h
      cases h0
      exact absurd h c.2
    · omega
  · rw [c.1] at h
    exact absurd h.symm c.2
  · have := (R.to (P.lt _ (last_mem P.ne)) n).2
    rw [h, c.1] at this
    exact absurd this.symm n
theorem rg_end (R : Ren es fs) {b : Nat} (hb : b < es.length) (r : IsR (G es fs) (Fo es fs b)) : G es fs ((Fo es fs b).getLastD 0) = b ∧ fs.getD ((Fo es fs b).getLastD 0) 0 ≠ -1 ∧ Ar es fs ((Fo es fs b).getLastD 0) b := by
  obtain ⟨P, _⟩ := fo_p R hb
  have e := r.2.1
  rw [P.headD] at e
  have ne : (Fo es fs b).getLastD 0 ≠ b := fun z => by
    have la := last_at P.ne
    rw [z] at la
    have := nd_inj P.nd P.hd la
    have := r.1
    omega
  have A := R.ar2 (P.lt _ (last_mem P.ne)) (by rw [e]; exact ne.symm)
  rw [e] at A
  exact ⟨e, A.fu, A⟩
/-- closed under both directions -/
def Cl (es fs : List Int) (p : List Nat) : Prop := ∀ x y, Ar es fs x y → (x ∈ p ↔ y ∈ p)
theorem cl_of (R : Ren es fs) {b : Nat} (hb : b < es.length) (h : es.getD b 0 = -1 ∨ Ar es fs ((Fo es fs b).getLastD 0) b) : Cl es fs (Fo es fs b) := fun x y A => by
  obtain ⟨P, _⟩ := fo_p R hb
  refine ⟨fun hx => by rw [← A.right R]; exact fo_closed R hb hx, fun hy => ?_⟩
  obtain ⟨i, hi⟩ := List.getElem?_of_mem hy
  have li := (List.getElem?_eq_some_iff.mp hi).1
  cases i with
  | zero =>
    have h0 := P.hd
    rw [hi] at h0
    have e := Option.some.inj h0
    rcases h with h | h
    · have := A.eq
      rw [e, h] at this
      exact absurd this A.fu
    · rw [e] at A
      rw [A.left R h]
      exact last_mem P.ne
  | succ i =>
    have h1 : (Fo es fs b)[i]? = some (Fo es fs b)[i] := List.getElem?_eq_getElem (by omega)
    rw [A.left R (way_ar R P h1 hi)]
    exact List.getElem_mem _
theorem cl_ch (R : Ren es fs) {b : Nat} (hb : b < es.length) (c : Ch es fs b) : Cl es fs (Fo es fs b) := cl_of R hb (.inl c.1)
theorem cl_rg (R : Ren es fs) {b : Nat} (hb : b < es.length) (r : IsR (G es fs) (Fo es fs b)) : Cl es fs (Fo es fs b) := cl_of R hb (.inr (rg_end R hb r).2.2)
/-- a way lies within what is closed, or beside it -/
theorem conn {p S : List Nat} (st : ∀ i x y, p[i]? = some x → p[i + 1]? = some y → (x ∈ S ↔ y ∈ S)) {x z : Nat} (hx : x ∈ p) (xs : x ∈ S) (hz : z ∈ p) : z ∈ S := by
  have all : ∀ (j : Nat) (u v : Nat), p[0]? = some u → p[j]? = some v → (u ∈ S ↔ v ∈ S) := by
    intro j
    induction j with
    | zero => intro u v h1 h2; rw [h1] at h2; rw [Option.some.inj h2]
    | succ j ih =>
      intro u v h1 h2
      have lj := (List.getElem?_eq_some_iff.mp h2).1
      have e : p[j]? = some p[j] := List.getElem?_eq_getElem (by omega)
      exact (ih u _ h1 e).trans (st j _ v e h2)
  obtain ⟨i, hi⟩ := List.getElem?_of_mem hx
  obtain ⟨k, hk⟩ := List.getElem?_of_mem hz
  have l0 := (List.getElem?_eq_some_iff.mp hi).1
  have e0 : p[0]? = some p[0] := List.getElem?_eq_getElem (by omega)
  exact (all k _ z e0 hk).mp ((all i _ x e0 hi).mpr xs)
theorem conn_fo (R : Ren es fs) {b : Nat} (hb : b < es.length) {S : List Nat} (c : Cl es fs S) {x z : Nat} (hx : x ∈ Fo es fs b) (xs : x ∈ S) (hz : z ∈ Fo es fs b) : z ∈ S :=
  conn (fun i u v h1 h2 => c u v (way_ar R (fo_p R hb).1 h1 h2)) hx xs hz
theorem conn_of (R : Ren es fs) {b : Nat} (hb : b < es.length) {S : List Nat} (c : Cl es fs S) {x z : Nat} (hx : x ∈ Fo fs es b) (xs : x ∈ S) (hz : z ∈ Fo fs es b) : z ∈ S :=
  conn (fun i u v h1 h2 => (c v u ((way_ar R.swap (fo_p R.swap (by rw [← R.len]; exact hb)).1 h1 h2).swap R.swap)).symm) hx xs hz
/-- the heads -/
def starts (es fs : List Int) (n : Nat) : List Nat := (List.range n).filter fun b => decide (Ch es fs b)
def tops (es fs : List Int) (n : Nat) : List Nat := (List.range n).filter fun b => decide (IsR (G es fs) (Fo es fs b))
def heads (es fs : List Int) : List Nat := starts es fs es.length ++ tops es fs es.length
theorem mem_starts {n b : Nat} : b ∈ starts es fs n ↔ b < n ∧ Ch es fs b := by unfold starts; rw [List.mem_filter, List.mem_range, decide_eq_true_eq]
theorem mem_tops {n b : Nat} : b ∈ tops es fs n ↔ b < n ∧ IsR (G es fs) (Fo es fs b) := by unfold tops; rw [List.mem_filter, List.mem_range, decide_eq_true_eq]
/-- no head is led to, or the head is the least and led to -/
theorem head_kind (R : Ren es fs) {b : Nat} (h : b ∈ heads es fs) : b < es.length ∧ Cl es fs (Fo es fs b) ∧ 1 < (Fo es fs b).length ∧ (Ch es fs b ∨ IsR (G es fs) (Fo es fs b)) := by
  rcases List.mem_append.mp h with h | h
  · obtain ⟨l, c⟩ := mem_starts.mp h
    exact ⟨l, cl_ch R l c, (ch_end R l c).2, .inl c⟩
  · obtain ⟨l, r⟩ := mem_tops.mp h
    exact ⟨l, cl_rg R l r, r.1, .inr r⟩
theorem led_in (R : Ren es fs) {b : Nat} (hb : b < es.length) (r : IsR (G es fs) (Fo es fs b)) {x : Nat} (hx : x ∈ Fo es fs b) : ∃ a, Ar es fs a x := by
  obtain ⟨P, _⟩ := fo_p R hb
  obtain ⟨i, hi⟩ := List.getElem?_of_mem hx
  have li := (List.getElem?_eq_some_iff.mp hi).1
  cases i with
  | zero =>
    have h0 := P.hd
    rw [hi] at h0
    rw [Option.some.inj h0]
    exact ⟨_, (rg_end R hb r).2.2⟩
  | succ i => exact ⟨_, way_ar R P (List.getElem?_eq_getElem (by omega)) hi⟩
theorem same_head (R : Ren es fs) {b c x : Nat} (hb : b ∈ heads es fs) (hc : c ∈ heads es fs) (xb : x ∈ Fo es fs b) (xc : x ∈ Fo es fs c) : b = c := by
  obtain ⟨lb, cb, _, kb⟩ := head_kind R hb
  obtain ⟨lc, cc, _, kc⟩ := head_kind R hc
  have Pb := (fo_p R lb).1
  have Pc := (fo_p R lc).1
  have b0 : b ∈ Fo es fs b := List.mem_of_getElem? Pb.hd
  have c0 : c ∈ Fo es fs c := List.mem_of_getElem? Pc.hd
  have bc : b ∈ Fo es fs c := conn_fo R lb cc xb xc b0
  have cb2 : c ∈ Fo es fs b := conn_fo R lc cb xc xb c0
  have no : ∀ {u}, Ch es fs u → ∀ a, ¬ Ar es fs a u := fun k a A => by
    have := A.eq
    rw [k.1] at this
    exact A.fu this
  rcases kb with kb | kb
  · rcases kc with kc | kc
    · obtain ⟨i, hi⟩ := List.getElem?_of_mem bc
      have li := (List.getElem?_eq_some_iff.mp hi).1
      cases i with
      | zero =>
        have h0 := Pc.hd
        rw [hi] at h0
        exact Option.some.inj h0
      | succ i => exact absurd (way_ar R Pc (List.getElem?_eq_getElem (show i < (Fo es fs c).length by omega)) hi) (no kb _)
    · obtain ⟨a, A⟩ := led_in R lc kc bc
      exact absurd A (no kb a)
  · rcases kc with kc | kc
    · obtain ⟨a, A⟩ := led_in R lb kb cb2
      exact absurd A (no kc a)
    · have h1 := kb.2.2 c cb2
      have h2 := kc.2.2 b bc
      rw [Pb.headD] at h1
      rw [Pc.headD] at h2
      omega
theorem min_of : ∀ {p : List Nat}, p ≠ [] → ∃ m, m ∈ p ∧ ∀ x ∈ p, m ≤ x
  | [], h => absurd rfl h
  | [a], _ => ⟨a, List.mem_cons_self .., fun x hx => by rw [List.mem_singleton.mp hx]; exact Nat.le_refl _⟩
  | a :: b :: r, _ => by
    obtain ⟨m, h1, h2⟩ := min_of (p := b :: r) (by simp)
    by_cases z : a ≤ m
    · exact ⟨a, List.mem_cons_self .., fun x hx => by
        rcases List.mem_cons.mp hx with e | k
        · rw [e]; exact Nat.le_refl _
        · exact Nat.le_trans z (h2 x k)⟩
    · exact ⟨m, List.mem_cons_of_mem _ h1, fun x hx => by
        rcases List.mem_cons.mp hx with e | k
        · rw [e]; omega
        · exact h2 x k⟩
/-- each block that changes lies in a row -/
theorem covered (R : Ren es fs) {b : Nat} (hb : b < es.length) (ne : es.getD b 0 ≠ fs.getD b 0) : ∃ h, h ∈ heads es fs ∧ b ∈ Fo es fs h := by
  obtain ⟨P, _⟩ := fo_p R hb
  have b0 : b ∈ Fo es fs b := List.mem_of_getElem? P.hd
  rcases fo_end R hb with h1 | ⟨_, e, _⟩ | ⟨l1, e1, n1⟩
  · have hb' : b < fs.length := by rw [← R.len]; exact hb
    obtain ⟨P', _⟩ := fo_p R.swap hb'
    have b0' : b ∈ Fo fs es b := List.mem_of_getElem? P'.hd
    have lst' := last_mem P'.ne
    have lc : (Fo fs es b).getLastD 0 < es.length := by rw [R.len]; exact P'.lt _ lst'
    rcases fo_end R.swap hb' with h2 | ⟨_, e, _⟩ | ⟨l2, e2, n2⟩
    · have c : Ch es fs ((Fo fs es b).getLastD 0) := by
        refine ⟨h2, ?_⟩
        by_cases one : (Fo fs es b).length = 1
        · obtain ⟨x, hx⟩ := List.length_eq_one_iff.mp one
          have h0 := P'.hd
          rw [hx] at h0 h2 ⊢
          cases h0
          exact fun z => ne (h2.trans z.symm)
        · have la := last_at P'.ne
          have pl : 0 < (Fo fs es b).length := List.length_pos_iff.mpr P'.ne
          have A := way_ar R.swap P' (i := (Fo fs es b).length - 2) (List.getElem?_eq_getElem (by omega)) (by rw [show (Fo fs es b).length - 2 + 1 = (Fo fs es b).length - 1 by omega]; exact la)
          rw [← A.eq]
          exact A.fu
      refine ⟨_, List.mem_append_left _ (mem_starts.mpr ⟨lc, c⟩), ?_⟩
      exact conn_of R hb (cl_ch R lc c) lst' (List.mem_of_getElem? (fo_p R lc).1.hd) b0'
    · exact absurd e.symm ne
    · exfalso
      have ne2 : (Fo fs es b).getLastD 0 ≠ b := fun z => by
        have la := last_at P'.ne
        rw [z] at la
        have := nd_inj P'.nd P'.hd la
        omega
      have A0 := R.swap.ar2 (P'.lt _ lst') (by rw [e2]; exact ne2.symm)
      rw [e2] at A0
      have cl' := cl_of R.swap hb' (.inr A0)
      have cl : Cl es fs (Fo fs es b) := fun x y A => (cl' y x (A.swap R)).symm
      have m := conn_fo R hb cl b0 b0' (last_mem P.ne)
      obtain ⟨i, hi⟩ := List.getElem?_of_mem m
      have li := (List.getElem?_eq_some_iff.mp hi).1
      have : ∃ a, Ar fs es a ((Fo es fs b).getLastD 0) := by
        cases i with
        | zero =>
          have h0 := P'.hd
          rw [hi] at h0
          rw [Option.some.inj h0]
          exact ⟨_, A0⟩
        | succ i => exact ⟨_, way_ar R.swap P' (List.getElem?_eq_getElem (by omega)) hi⟩
      obtain ⟨a, A⟩ := this
      have := A.eq
      rw [h1] at this
      exact A.fu this
  · exact absurd e ne
  · have ne2 : (Fo es fs b).getLastD 0 ≠ b := fun z => by
      have la := last_at P.ne
      rw [z] at la
      have := nd_inj P.nd P.hd la
      omega
    have A0 := R.ar2 (P.lt _ (last_mem P.ne)) (by rw [e1]; exact ne2.symm)
    rw [e1] at A0
    have cl := cl_of R hb (.inr A0)
    have led : ∀ x ∈ Fo es fs b, ∃ a, Ar es fs a x := fun x hx => by
      obtain ⟨i, hi⟩ := List.getElem?_of_mem hx
      have li := (List.getElem?_eq_some_iff.mp hi).1
      cases i with
      | zero =>
        have h0 := P.hd
        rw [hi] at h0
        rw [Option.some.inj h0]
        exact ⟨_, A0⟩
      | succ i => exact ⟨_, way_ar R P (List.getElem?_eq_getElem (by omega)) hi⟩
    have ful : ∀ x ∈ Fo es fs b, fs.getD x 0 ≠ -1 := fun x hx => by
      obtain ⟨i, hi⟩ := List.getElem?_of_mem hx
      have li := (List.getElem?_eq_some_iff.mp hi).1
      by_cases z : i + 1 < (Fo es fs b).length
      · exact (way_ar R P hi (List.getElem?_eq_getElem z)).fu
      · have la := last_at P.ne
        rw [show (Fo es fs b).length - 1 = i by omega, hi] at la
        rw [Option.some.inj la]
        exact n1
    obtain ⟨m, hm, hle⟩ := min_of P.ne
    have lm := P.lt m hm
    obtain ⟨Q, _⟩ := fo_p R lm
    have m0 : m ∈ Fo es fs m := List.mem_of_getElem? Q.hd
    have sub : ∀ x ∈ Fo es fs m, x ∈ Fo es fs b := fun x hx => conn_fo R lm cl m0 hm hx
    rcases fo_end R lm with h | ⟨_, e, _⟩ | ⟨l2, e2, n2⟩
    · exact absurd h (ful _ (sub _ (last_mem Q.ne)))
    · obtain ⟨a, A⟩ := led m hm
      exact absurd (R.injF A.l1 A.l2 (A.eq.trans e) A.fu) A.ne
    · have r : IsR (G es fs) (Fo es fs m) := ⟨l2, by rw [Q.headD]; exact e2, fun x hx => by rw [Q.headD]; exact hle x (sub x hx)⟩
      refine ⟨m, List.mem_append_right _ (mem_tops.mpr ⟨lm, r⟩), ?_⟩
      exact conn_fo R hb (cl_rg R lm r) hm m0 b0
theorem row_changed (R : Ren es fs) {h x : Nat} (hh : h ∈ heads es fs) (hx : x ∈ Fo es fs h) : x < es.length ∧ es.getD x 0 ≠ fs.getD x 0 := by
  obtain ⟨l, c, _, k⟩ := head_kind R hh
  obtain ⟨P, _⟩ := fo_p R l
  refine ⟨P.lt x hx, fun e => ?_⟩
  have led : (∃ a, Ar es fs a x) ∨ (x = h ∧ Ch es fs h) := by
    rcases k with k | k
    · obtain ⟨i, hi⟩ := List.getElem?_of_mem hx
      have li := (List.getElem?_eq_some_iff.mp hi).1
      cases i with
      | zero =>
        have h0 := P.hd
        rw [hi] at h0
        exact .inr ⟨Option.some.inj h0, k⟩
      | succ i => exact .inl ⟨_, way_ar R P (List.getElem?_eq_getElem (by omega)) hi⟩
    · exact .inl (led_in R l k hx)
  rcases led with ⟨a, A⟩ | ⟨rfl, c⟩
  · exact A.ne (R.injF A.l1 A.l2 (A.eq.trans e) A.fu)
  · exact c.2 (e.symm.trans c.1)
def allRows (es fs : List Int) : List Nat := (heads es fs).flatMap (Fo es fs)
def changed (es fs : List Int) (n : Nat) : List Nat := (List.range n).filter fun b => !decide (es.getD b 0 = fs.getD b 0)
theorem pw_range (n : Nat) (p : Nat → Bool) : ((List.range n).filter p).Pairwise (· < ·) := (List.pairwise_lt_range).filter _
theorem nd_range (n : Nat) (p : Nat → Bool) : ((List.range n).filter p).Nodup := (pw_range n p).imp fun h e => by omega
theorem heads_nd (R : Ren es fs) : (heads es fs).Nodup := by
  unfold heads
  rw [List.nodup_append]
  refine ⟨nd_range _ _, nd_range _ _, fun a ha b hb e => ?_⟩
  subst e
  obtain ⟨l, c⟩ := mem_starts.mp ha
  obtain ⟨_, r⟩ := mem_tops.mp hb
  have := (rg_end R l r).2.2
  have e := this.eq
  rw [c.1] at e
  exact this.fu e
theorem rows_perm (R : Ren es fs) : (allRows es fs).Perm (changed es fs es.length) := by
  refine (List.perm_ext_iff_of_nodup ?_ (nd_range _ _)).mpr fun a => ?_
  · unfold allRows List.Nodup
    rw [List.pairwise_flatMap]
    refine ⟨fun h hh => (fo_p R (head_kind R hh).1).1.nd, ?_⟩
    have nd := heads_nd R
    refine List.Pairwise.imp_of_mem (R := (· ≠ ·)) (fun {b c} hb hc ne x hx y hy e => ?_) nd
    rw [← e] at hy
    exact ne (same_head R hb hc hx hy)
  · unfold allRows
    rw [List.mem_flatMap, List.mem_filter, List.mem_range]
    refine ⟨fun ⟨h, h1, h2⟩ => ?_, fun ⟨h1, h2⟩ => ?_⟩
    · obtain ⟨l, n⟩ := row_changed R h1 h2
      exact ⟨l, by simpa using n⟩
    · exact covered R h1 (by simpa using h2)
/-! what moves -/
def mvA (es fs : List Int) (n : Nat) : List Int := ((List.range n).filter fun b => !decide (fs.getD b 0 = es.getD b 0) && !decide (fs.getD b 0 = -1)).map (fs.getD · 0)
def mvB (es fs : List Int) (n : Nat) : List Int := ((List.range n).filter fun b => !decide (es.getD b 0 = -1) && !decide (es.idxOf (es.getD b 0) = fs.idxOf (es.getD b 0))).map (es.getD · 0)
theorem nd_map {l : List Nat} (nd : l.Nodup) {f : Nat → Int} (h : ∀ a ∈ l, ∀ b ∈ l, f a = f b → a = b) : (l.map f).Nodup := by
  unfold List.Nodup
  rw [List.pairwise_map]
  exact List.Pairwise.imp_of_mem (R := (· ≠ ·)) (fun {a b} ha hb ne e => ne (h a ha b hb e)) nd
theorem mv_perm (R : Ren es fs) : (mvA es fs es.length).Perm (mvB es fs es.length) := by
  refine (List.perm_ext_iff_of_nodup (nd_map (nd_range _ _) fun a ha b hb e => ?_) (nd_map (nd_range _ _) fun a ha b hb e => ?_)).mpr fun v => ?_
  · obtain ⟨ha1, ha2⟩ := List.mem_filter.mp ha
    obtain ⟨hb1, _⟩ := List.mem_filter.mp hb
    simp only [Bool.and_eq_true, Bool.not_eq_true', decide_eq_false_iff_not] at ha2
    exact R.injF (List.mem_range.mp ha1) (List.mem_range.mp hb1) e ha2.2
  · obtain ⟨ha1, ha2⟩ := List.mem_filter.mp ha
    obtain ⟨hb1, _⟩ := List.mem_filter.mp hb
    simp only [Bool.and_eq_true, Bool.not_eq_true', decide_eq_false_iff_not] at ha2
    exact R.inj (List.mem_range.mp ha1) (List.mem_range.mp hb1) e ha2.1
  · constructor
    · intro h
      obtain ⟨b, hb, rfl⟩ := List.mem_map.mp h
      obtain ⟨h1, h2⟩ := List.mem_filter.mp hb
      have lb := List.mem_range.mp h1
      simp only [Bool.and_eq_true, Bool.not_eq_true', decide_eq_false_iff_not] at h2
      have lf : b < fs.length := by rw [← R.len]; exact lb
      have me : fs.getD b 0 ∈ es := R.pm.mem_iff.mpr (mem_at lf)
      obtain ⟨i1, i2⟩ := at_idx me
      obtain ⟨j1, j2⟩ := at_idx (mem_at lf)
      refine List.mem_map.mpr ⟨es.idxOf (fs.getD b 0), List.mem_filter.mpr ⟨List.mem_range.mpr i1, ?_⟩, i2⟩
      rw [i2]
      simp only [Bool.and_eq_true, Bool.not_eq_true', decide_eq_false_iff_not]
      refine ⟨h2.2, fun e => h2.1 ?_⟩
      have jb : fs.idxOf (fs.getD b 0) = b := R.injF (by rw [R.len]; exact j1) lb j2 (by rw [j2]; exact h2.2)
      rw [e, jb] at i2
      exact i2.symm
    · intro h
      obtain ⟨b, hb, rfl⟩ := List.mem_map.mp h
      obtain ⟨h1, h2⟩ := List.mem_filter.mp hb
      have lb := List.mem_range.mp h1
      simp only [Bool.and_eq_true, Bool.not_eq_true', decide_eq_false_iff_not] at h2
      have mf : es.getD b 0 ∈ fs := R.pm.mem_iff.mp (mem_at lb)
      obtain ⟨i1, i2⟩ := at_idx mf
      obtain ⟨j1, j2⟩ := at_idx (mem_at lb)
      refine List.mem_map.mpr ⟨fs.idxOf (es.getD b 0), List.mem_filter.mpr ⟨List.mem_range.mpr (by rw [R.len]; exact i1), ?_⟩, i2⟩
      rw [i2]
      simp only [Bool.and_eq_true, Bool.not_eq_true', decide_eq_false_iff_not]
      refine ⟨fun e => h2.2 ?_, h2.1⟩
      exact R.inj j1 (by rw [R.len]; exact i1) (j2.trans e) (by rw [j2]; exact h2.1)
/-! sorting -/
theorem srt_uniq {a b : List Int} (pm : a.Perm b) (ha : a.Pairwise (· ≤ ·)) (hb : b.Pairwise (· ≤ ·)) : a = b := List.Perm.eq_of_pairwise (fun x y _ _ h1 h2 => by omega) ha hb pm
end
end RQ
/-! x is not None, as a value -/
namespace Rv
open PySem PySem.Spec PyProof.Rows L2
def rNotNQ : R2 := fun x y H Q => y = .non ∧ Q (.bl (!decide (x = .non))) H
theorem op_notNQ {X : Cx} : OpR X (compareOp .IsNot) rNotNQ := op_notN
theorem rd_notNQ {H : Hp} {Q : VK} {v : V} (q : Q (.bl (!decide (v = .non))) H) : rNotNQ v .non H Q := ⟨rfl, q⟩
end Rv
/-! for k38: tuples whose object may be known or not; a box with one cell; the size of a set -/
namespace Rv
open PySem PySem.Spec PyProof.Rows L2
def TG (H : Hp) (a : Addr) (es : List Int) : Prop := H a = some (.tup (es.map V.int)) ∨ GT H a es
section
variable {H H' : Hp} {a b p : Addr} {es : List Int} {B : Box} {xs : List V} {o : HO} {K : PySem.W.Frag} {Q : VK}
theorem TG.of (h : H a = some (.tup (es.map V.int))) : TG H a es := .inl h
theorem TG.sq (h : TG H a es) : SqT K H a (es.map V.int) := h.elim SqT.of GT.sq
theorem TG.keep (h : TG H a es) (k : ∀ o, H a = some o → H' a = some o) : TG H' a es := h.imp (k _) fun ⟨o, e, d⟩ => ⟨o, k _ e, d⟩
theorem TG.same (h : TG H a es) (S : Same H H') : TG H' a es := h.keep fun o e => S _ _ e
theorem TG.nl (h : TG H a es) : H a ≠ some (.lst xs) := fun e => by
  rcases h with h | ⟨o, h, _⟩ <;> rw [e] at h <;> cases h
theorem TG.nem (h : TG H a es) (i : B.I H) : a ∉ B.m := fun k => by
  obtain ⟨ys, e⟩ := B.live _ i a (B.sub _ k)
  exact h.nl e
theorem GT.wg (h : GT H a es) (w : Wg B H H') : GT H' a es := by
  obtain ⟨o, e, d⟩ := id h
  exact ⟨o, w.keep a _ (TG.nem (.inr h) w.i0) e, d⟩
theorem TG.mut (h : TG H a es) (e : H b = some (.lst xs)) : TG (upd H b o) a es := h.keep fun u eu => by
  rw [upd_ne (fun z => by rw [z] at h; exact h.nl e)]
  exact eu
theorem TG.dp (h : TG H a es) : Dp K H (.ref a) (.tuple (es.map PyData.int)) := .tup h.sq (dp_ints es)
/-! readings -/
theorem rd_ixO {v : V} {i : Int} (g : TG H p es) (e : atI (es.map V.int) i = some v) (q : Q v H) : rIxT K (.ref p) (.int i) H Q := ⟨p, _, i, v, rfl, rfl, g.sq, e, q⟩
theorem rd_lenO (g : TG H p es) (q : Q (.int (es.length : Nat)) H) : rLenQ K [.ref p] H Q := ⟨p, _, rfl, .inr g.sq, by rw [List.length_map]; exact q⟩
theorem rd_ninO {x : V} (h : TG H p es) (fx : flatV x = true) (q : Q (.bl (!inV x (es.map V.int))) H) : rIn K true x (.ref p) H Q := ⟨p, _, rfl, .inr h.sq, fx, ints_flat es, q⟩
theorem rd_lstO (h : TG H p es) (q : NewL (.lst (es.map V.int)) Q H) : rLstQ K [.ref p] H Q := ⟨p, _, rfl, .inr h.sq, q⟩
theorem rd_ItO {R : It → Hp → Prop} (h : TG H p es) (q : R (Itt K p) H) : ItT K R (.ref p) H := ⟨p, rfl, ⟨_, h.sq⟩, q⟩
theorem rd_ZpO {R : It → Hp → Prop} {fs : List Int} (h : TG H a es) (h2 : TG H b fs) (q : R (RZ.ItzT K a b) H) : ZpA K R [.ref a, .ref b] H := ⟨a, b, _, _, rfl, .inr ⟨h.sq, h2.sq, q⟩⟩
end
/-! isinstance, enumerate, sorted of a tuple of either make -/
def rIsO (K : PySem.W.Frag) : List V → Hp → VK → Prop := fun xs H Q => rIsi K xs H Q ∨ rIsG xs H Q
theorem call_isO {X : Cx} : CallR X (.builtin "isinstance") (rIsO X.K) := fun pins s σ H xs us Q I r h => h.elim (call_isi pins s σ H xs us Q I r) (call_isG pins s σ H xs us Q I r)
def EnO (R : It → Hp → Prop) (vs : List V) (H1 : Hp) : Prop := ∃ (a : Addr) (es : List Int), vs = [.ref a] ∧ TG H1 a es ∧ ∀ G : Hp → Prop, (∀ H2, Same H1 H2 → G H2) → R (Jen (es.map V.int).length G (fun i => (es.map V.int)[i]?)) H1
def iEnO (ta : TA) : TI := fun σ H R => ta σ H fun vs H1 => EnO R vs H1
theorem pi_enO {X : Cx} {e : Expr} {ta : TA} {p pos tpos : Pos} {elts : List Expr} {kk : Nat} (hg : Gl X "enumerate") (hm : X.mg "enumerate" = none) (ha : PA X [e] ta) (hs : starEach [e] X.env = [(false, eval e X.env)] := by rfl) :
    PI X (.Tuple elts kk tpos) (.Call (.Name "enumerate" p) [e] [] pos) (iEnO ta) := by
  refine ⟨fun pins s σ H R I h => Call_ (ld_blt I hg hm boot_enumerate (PyProof.Rows.callWith_type1 (thn (ha.run pos pins s σ H _ I h) fun us s1 q0 => ?_) hs rfl))⟩
  obtain ⟨vs, H1, I1, r1, a, es, rfl, hT, q⟩ := q0
  cases r1 with
  | cons r rr =>
    cases rr
    cases r
    obtain ⟨its, rv, hI, _⟩ := I1.tuple (show SqT X.K H1 a (es.map V.int) from hT.sq)
    refine enum1 (begins_tuple a its.toArray) hI fun h' he ho hk => wpAny_pyIter_enum he ?_
    have I2 : Inv X pins σ H1 { s1 with heap := h' } := I1.kept (t' := s1.toks) hk
    have fin : ∀ b ∈ [s1.heap.objs.size + 1, s1.heap.objs.size], FpOk X pins H1 b := fun b hb => by
      have le : s1.heap.objs.size ≤ b := by
        rcases List.mem_cons.mp hb with z | z
        · rw [z]; exact Nat.le_succ _
        · rw [show b = s1.heap.objs.size by simpa using z]; exact Nat.le_refl _
      exact I1.fpOk le (I1.hok.fresh le)
    rcases hT with hT | ⟨o, hT, _⟩
    · exact ⟨s1.heap.objs.size + 1, [s1.heap.objs.size + 1, s1.heap.objs.size], _, _, H1, rfl, I2, turn_jen (feed_tup s1.heap.objs.size a (es.map V.int)) (Nat.succ_ne_self _), ⟨⟨.none, he⟩, ⟨_, ho, rfl, rfl⟩⟩, fin, q _ fun H2 S => S _ _ hT⟩
    · exact ⟨s1.heap.objs.size + 1, [s1.heap.objs.size + 1, s1.heap.objs.size], _, _, H1, rfl, I2, turn_jen (feed_tupG s1.heap.objs.size a o (es.map V.int)) (Nat.succ_ne_self _), ⟨⟨.none, he⟩, ⟨_, ho, rfl, rfl⟩⟩, fin, q _ fun H2 S => S _ _ hT⟩
def rSortO (K : PySem.W.Frag) : List V → Hp → VK → Prop := fun vs H Q => ∃ (a : Addr) (ns : List Int), vs = [V.ref a] ∧ SqT K H a (ns.map V.int) ∧ ns.length < 64 ∧
  ∀ (ms : List Int) (p : Addr), ms.Perm ns → ms.Pairwise (· ≤ ·) → H p = none → Q (.ref p) (upd H p (.lst (ms.map V.int)))
theorem cr_sortO {X : Cx} : CallR X (.builtin "sorted") (rSortO X.K) := by
  intro pins s σ H vs us Q I r h
  obtain ⟨a, ns, rfl, hs, few, q⟩ := h
  obtain ⟨its, rv, it, _⟩ := I.tuple hs
  rw [Vals.ref1 r]
  have num := rv.ints
  refine sortT it num (by rw [num.length]; exact few) fun out ms b1 b2 b3 => ?_
  obtain ⟨ep, at2⟩ := sortedAll_at s.heap its out
  have ln : (ms.map V.int).length ≤ sizeLine := by
    rw [List.length_map, b2.length_eq]
    exact small64 few
  exact ⟨.ref _, upd H (s.heap.objs.size + 1) (.lst (ms.map V.int)), I.laid (t' := s.toks) (fun _ _ => sortedAll_old) (Nat.le_succ _) ⟨ln, out.toList, ep, vals_of_ints b1, at2⟩, rfl, q ms _ b2 b3 (I.hok.fresh (Nat.le_succ _))⟩
/-- len(s), s a set of whole numbers -/
def rLenSO (w : World) : List V → Hp → VK → Prop := fun xs H Q => ∃ (a : Addr) (ns : List Int) (n : Nat), xs = [.ref a] ∧ H a = some (SetO w a (fun j => decide (j ∈ ns)) n) ∧ ((∃ ks : List Int, ks.Nodup ∧ (∀ k, k ∈ ks ↔ k ∈ ns) ∧ ks.length = n) → Q (.int n) H)
theorem call_lenSO {X : Cx} : CallR X (.builtin "len") (rLenSO X.w) := by
  intro pins s σ H xs us Q I r h
  obtain ⟨a, ns, n, rfl, ha, q⟩ := h
  rw [Vals.ref1 r]
  obtain ⟨o, es, ep, t, ho, hex, hd, _, nd, mem, lt, hf, hn, _⟩ := setO_get I ha
  refine call_len_set ho hex hd hf (by unfold scanBound at lt; omega) ⟨.int n, H, I.tok _, ⟨_, by rw [hn]⟩, q ⟨_, nd, fun k => (mem k).symm.trans decide_eq_true_iff, by rw [List.length_map, Array.length_toList, hn]⟩⟩
section
variable {H : Hp} {K : PySem.W.Frag} {w : World} {Q : VK} {p a : Addr} {es ns : List Int} {n : Nat} {xs : List V}
theorem rd_isO (g : TG H p es) (q : Q (.bl true) H) : rIsO K [.ref p, .ty "tuple"] H Q := g.elim (fun h => .inl (rd_isiT h kit_tt q)) fun h => .inr (rd_isG h q)
theorem rd_isOL (h : H p = some (.lst xs)) (q : Q (.bl false) H) : rIsO K [.ref p, .ty "tuple"] H Q := .inl (rd_isiL h kit_lt q)
theorem rd_iEnO {ta : TA} {σ : L2.St} {R : It → Hp → Prop} (q : ta σ H fun vs H1 => EnO R vs H1) : iEnO ta σ H R := q
theorem rd_EnO {R : It → Hp → Prop} (g : TG H p es) (q : ∀ G : Hp → Prop, (∀ H2, Same H H2 → G H2) → R (Jen (es.map V.int).length G (fun i => (es.map V.int)[i]?)) H) : EnO R [.ref p] H := ⟨p, es, rfl, g, q⟩
theorem rd_sortO (h : TG H a es) (few : es.length < 64) (q : ∀ (H2 : Hp) (p : Addr) (ms : List Int), Same H H2 → H p = none → H2 p = some (.lst (ms.map V.int)) → ms.Perm es → ms.Pairwise (· ≤ ·) → Q (.ref p) H2) : rSortO K [.ref a] H Q :=
  ⟨a, es, rfl, h.sq, few, fun ms p pm pw np => q _ p ms (same_new (Same.refl _) np) np upd_same pm pw⟩
theorem rd_lenSO (h : H a = some (SetO w a (fun j => decide (j ∈ ns)) n)) (q : (∃ ks : List Int, ks.Nodup ∧ (∀ k, k ∈ ks ↔ k ∈ ns) ∧ ks.length = n) → Q (.int n) H) : rLenSO w [.ref a] H Q := ⟨a, ns, n, rfl, h, q⟩
end
/-- how many different ones -/
theorem card_nodup {ns ks : List Int} (nd : ns.Nodup) (k1 : ks.Nodup) (k2 : ∀ k, k ∈ ks ↔ k ∈ ns) : ks.length = ns.length := ((List.perm_ext_iff_of_nodup k1 nd).mpr k2).length_eq
theorem nd_sub : ∀ {ks ns : List Int}, ks.Nodup → (∀ k ∈ ks, k ∈ ns) → ks.length ≤ ns.length
  | [], _, _, _ => Nat.zero_le _
  | x :: r, ns, nd, h => by
    have nd2 := List.nodup_cons.mp nd
    have hx := h x (List.mem_cons_self ..)
    have := nd_sub (ks := r) (ns := ns.erase x) nd2.2 fun k hk => (List.mem_erase_of_ne (fun e => nd2.1 (by rw [← e]; exact hk))).mpr (h k (List.mem_cons_of_mem _ hk))
    rw [List.length_erase_of_mem hx] at this
    have : 0 < ns.length := List.length_pos_of_mem hx
    rw [List.length_cons]
    omega
theorem card_dup : ∀ {ns ks : List Int}, ¬ ns.Nodup → ks.Nodup → (∀ k, k ∈ ks ↔ k ∈ ns) → ks.length < ns.length
  | [], _, h, _, _ => absurd List.nodup_nil h
  | x :: r, ks, h, nd, m => by
    rw [List.length_cons]
    by_cases z : x ∈ r
    · have := nd_sub (ns := r) nd fun k hk => by
        rcases List.mem_cons.mp ((m k).mp hk) with e | e
        · rw [e]; exact z
        · exact e
      omega
    · have hr : ¬ r.Nodup := fun n => h (List.nodup_cons.mpr ⟨z, n⟩)
      have hx : x ∈ ks := (m x).mpr (List.mem_cons_self ..)
      have := card_dup (ks := ks.erase x) hr (nd.erase x) fun k => by
        constructor
        · intro hk
          rcases List.mem_cons.mp ((m k).mp (List.mem_of_mem_erase hk)) with e | e
          · rw [e] at hk
            exact absurd hk nd.not_mem_erase
          · exact e
        · intro hk
          have ne : k ≠ x := fun e => z (by rw [← e]; exact hk)
          exact (List.mem_erase_of_ne ne).mpr ((m k).mpr (List.mem_cons_of_mem _ hk))
      rw [List.length_erase_of_mem hx] at this
      have : 0 < ks.length := List.length_pos_of_mem hx
      omega
/-! the box: [cell, whether it is great, a lesser one, how many were taken] -/
/-! images that may be wrong -/
def EOk (e : Int) : Prop := -1 ≤ e ∧ e ≤ 999
instance (e : Int) : Decidable (EOk e) := by unfold EOk; exact inferInstance
def IB (M : List Addr) (H : Hp) (v : V) (k : Int) : Prop :=
  (k = -1 ∧ ((∃ p xs, v = .ref p ∧ p ∉ M ∧ H p = some (.lst xs)) ∨ (∃ p es, v = .ref p ∧ TG H p es ∧ (es.length = 0 ∨ 12 < es.length) ∧ es.length ≤ 1000))) ∨
  (∃ (a : Addr) (es : List Int) (j : Nat), v = .ref a ∧ TG H a es ∧ 1 ≤ es.length ∧ es.length ≤ 12 ∧ k = (j : Int) ∧ j < es.length ∧ ¬ EOk (es.getD j 0) ∧ ∀ i : Nat, i < j → EOk (es.getD i 0))
theorem IB.keep {M : List Addr} {H H' : Hp} {v : V} {k : Int} (h : IB M H v k) (kp : ∀ a o, (a ∉ M ∨ ∀ xs, o ≠ .lst xs) → H a = some o → H' a = some o) : IB M H' v k := by
  have tg : ∀ {p es}, TG H p es → TG H' p es := fun {p es} t => t.keep fun o e => kp _ _ (.inr fun xs z => by rw [z] at e; exact t.nl e) e
  rcases h with ⟨e, ⟨p, xs, e2, n, h⟩ | ⟨p, es, e2, h, l⟩⟩ | ⟨a, es, j, e, h, r⟩
  · exact .inl ⟨e, .inl ⟨p, xs, e2, n, kp _ _ (.inl n) h⟩⟩
  · exact .inl ⟨e, .inr ⟨p, es, e2, tg h, l⟩⟩
  · exact .inr ⟨a, es, j, e, tg h, r⟩
theorem IB.same {M : List Addr} {H H' : Hp} {v : V} {k : Int} (h : IB M H v k) (S : Same H H') : IB M H' v k := h.keep fun a o _ e => S a o e
/-- a good image -/
def IG (H : Hp) (v : V) (es : List Int) : Prop := ∃ a, v = .ref a ∧ TG H a es ∧ Img es
theorem IG.same {H H' : Hp} {v : V} {es : List Int} (h : IG H v es) (S : Same H H') : IG H' v es := by
  obtain ⟨a, e, t, i⟩ := h
  exact ⟨a, e, t.same S, i⟩
end Rv
/-! for k38: pairs that are right, and those that are not; careful lines -/
namespace Rv
open PySem PySem.Spec PyProof.Rows L2 RL RQ
theorem TG.inj {H : Hp} {a : Addr} {es fs : List Int} (h : TG H a es) (k : TG H a fs) : es = fs := by
  have im : ∀ {x y : List Int}, x.map V.int = y.map V.int → x = y := fun {x y} e => List.map_inj_right (fun a b h => V.int.inj h) |>.mp e
  rcases h with h | ⟨o, h, _⟩ <;> rcases k with k | ⟨o2, k, _⟩
  · rw [h] at k; injection k with k; injection k with k; exact im k
  · rw [h] at k; injection k with k; cases k
  · rw [h] at k; injection k with k; cases k
  · rw [h] at k; injection k with k; injection k with k1 k; injection k with k; exact im k
/-- which image of two is wrong -/
def PB (M : List Addr) (H : Hp) (v1 v2 : V) (k : Int) : Prop := IB M H v1 k ∨ (∃ es, IG H v1 es ∧ IB M H v2 k)
/-- a rename pair, both tuples known -/
structure RP (H : Hp) (a b : Addr) (es fs : List Int) : Prop where
  ga : GT H a es
  gb : GT H b fs
  ia : Img es
  ib : Img fs
  rn : Ren es fs
theorem RP.same {H H' : Hp} {a b : Addr} {es fs : List Int} (h : RP H a b es fs) (S : Same H H') : RP H' a b es fs := ⟨h.ga.same S, h.gb.same S, h.ia, h.ib, h.rn⟩
theorem RP.ta {H : Hp} {a b : Addr} {es fs : List Int} (h : RP H a b es fs) : TG H a es := .inr h.ga
theorem RP.tb {H : Hp} {a b : Addr} {es fs : List Int} (h : RP H a b es fs) : TG H b fs := .inr h.gb
def PairS (K : PySem.W.Frag) (H : Hp) (v1 v2 : V) (E : XK) (Qg : Addr → Addr → List Int → List Int → Prop) : Prop :=
  (∃ a b es fs, v1 = .ref a ∧ v2 = .ref b ∧ RP H a b es fs ∧ Qg a b es fs) ∨
  (∃ M k, PB M H v1 v2 k ∧ ∀ H' d, Same H H' → H' d = some (.xd [("block", .int k)]) → E (.ref (atTop K "InvalidImage")) (some d) H') ∨
  (∃ es fs, IG H v1 es ∧ IG H v2 fs ∧ ¬ Ren es fs ∧ ∀ H', Same H H' → E (.ref (atTop K "NotRenaming")) none H')
/-- where the values come from -/
def ldL (es fs : List Int) : List Int := fs.map fun e => if e = -1 then -1 else (es.idxOf e : Int)
theorem ldL_len (es fs : List Int) : (ldL es fs).length = fs.length := List.length_map ..
theorem ldL_at {es fs : List Int} {b : Nat} (h : b < fs.length) : atI ((ldL es fs).map V.int) (b : Int) = some (.int (if fs.getD b 0 = -1 then -1 else ((G es fs b : Nat) : Int))) := by
  refine atI_nat ?_
  unfold ldL
  rw [List.getElem?_map, List.getElem?_map, get_at h]
  show some (V.int (if fs.getD b 0 = -1 then -1 else ((es.idxOf (fs.getD b 0) : Nat) : Int))) = _
  unfold G
  by_cases z : fs.getD b 0 = -1
  · rw [if_pos z, if_pos z]
  · rw [if_neg z, if_neg z, if_neg z]
theorem rd_neL {K : PySem.W.Frag} {H : Hp} {Q : VK} {p p2 : Addr} {xs ys : List Int} (h : H p = some (.lst (xs.map V.int))) (h2 : H p2 = some (.lst (ys.map V.int))) (q : Q (.bl (!decide (xs = ys))) H) : rNeD K (.ref p) (.ref p2) H Q := by
  obtain ⟨d1, d2, a1, a2, s1, s2, q2⟩ := rd_eqL (K := K) (Q := fun v H' => ∃ b, v = .bl b ∧ Q (.bl (!b)) H') h h2 ⟨_, rfl, q⟩
  obtain ⟨b, e, q3⟩ := q2
  refine ⟨d1, d2, a1, a2, s1, s2, ?_⟩
  have := V.bl.inj e
  rw [this]
  exact q3
/-- t.index(k) of whole numbers -/
theorem rd_tixI {i j : Nat} {σ : L2.St} {H : Hp} {Q : VK} {p : Addr} {ns : List Int} {k : Int} (hv : σ[i]? = some (some (.ref p))) (hw : σ[j]? = some (some (.int k))) (g : GT H p ns) (m : k ∈ ns) (q : Q (.int (ns.idxOf k : Nat)) H) : tTix (tVar i) (tVar j) σ H Q :=
  ⟨_, hv, p, ns, rfl, g, _, hw, k, rfl, g, m, q⟩
/-- a careful line -/
def Care (r : Ln) : Prop := r.w = sMove ∧ r.g ≠ [] ∧ r.g.getD r.t.toNat 0 = 46
/-! the first number that does not stand in a list -/
structure Cand (c : Nat → Int) (found : List Int) (k j : Nat) (v : Int) : Prop where
  eq : v = c k
  le : k ≤ j
  old : ∀ i, i < k → c i ∈ found
  new : v ∉ found ∨ k = j
theorem Cand.zero {c : Nat → Int} {found : List Int} : Cand c found 0 0 (c 0) := ⟨rfl, Nat.le_refl _, fun i h => absurd h (Nat.not_lt_zero i), .inr rfl⟩
theorem Cand.stay {c : Nat → Int} {found : List Int} {k j : Nat} {v : Int} (h : Cand c found k j v) (n : v ∉ found) : Cand c found k (j + 1) v := ⟨h.eq, Nat.le_succ_of_le h.le, h.old, .inl n⟩
theorem Cand.step {c : Nat → Int} {found : List Int} {k j : Nat} {v : Int} (h : Cand c found k j v) (m : v ∈ found) : Cand c found (k + 1) (j + 1) (c (k + 1)) := by
  have e : k = j := h.new.resolve_left fun n => n m
  exact ⟨rfl, by omega, fun i hi => by
    by_cases z : i = k
    · rw [z, ← h.eq]; exact m
    · exact h.old i (by omega), .inr (by omega)⟩
theorem Cand.done {c : Nat → Int} {found : List Int} {k j : Nat} {v : Int} (h : Cand c found k j v) (l : found.length ≤ j) (inj : ∀ a b, a ≤ j → b ≤ j → c a = c b → a = b) : v ∉ found := fun m => by
  have e : k = j := h.new.resolve_left fun n => n m
  have nd : ((List.range (j + 1)).map c).Nodup := nd_map List.nodup_range fun a ha b hb e2 => inj a b (by have := List.mem_range.mp ha; omega) (by have := List.mem_range.mp hb; omega) e2
  have := nd_sub nd (ns := found) fun x hx => by
    obtain ⟨a, ha, rfl⟩ := List.mem_map.mp hx
    have := List.mem_range.mp ha
    by_cases z : a = k
    · rw [z, ← h.eq]; exact m
    · exact h.old a (by omega)
  rw [List.length_map, List.length_range] at this
  omega
/-- the values of one hundred, from v on -/
def c100 (v : Int) (k : Nat) : Int := v / 100 * 100 + (v + k) % 100
theorem c100_next (v : Int) (k : Nat) : c100 v (k + 1) = (c100 v k).fdiv 100 * 100 + (c100 v k + 1).fmod 100 := by
  unfold c100
  rw [Int.fdiv_eq_ediv_of_nonneg _ (by decide), Int.fmod_eq_emod_of_nonneg _ (by decide)]
  omega
theorem c100_zero (v : Int) : c100 v 0 = v := by unfold c100; omega
theorem c100_inj (v : Int) (a b : Nat) (ha : a ≤ 12) (hb : b ≤ 12) (e : c100 v a = c100 v b) : a = b := by unfold c100 at e; omega
theorem c100_in {v : Int} (h0 : 0 ≤ v) (h1 : v ≤ 999) (k : Nat) : 0 ≤ c100 v k ∧ c100 v k ≤ 999 := by unfold c100; omega
/-! laying, exchanging -/
/-- int(i), int(b) -/
def rIntO : List V → Hp → VK → Prop := fun xs H Q => rIntQ xs H Q ∨ ∃ b, xs = [.bl b] ∧ Q (.int (if b = true then 1 else 0)) H
theorem call_intO {X : Cx} : CallR X (.type "int") rIntO := fun pins s σ H xs us Q I r h => call_int1 pins s σ H xs us Q I r h
theorem rd_intOI {i : Int} {H : Hp} {Q : VK} (q : Q (.int i) H) : rIntO [.int i] H Q := .inl ⟨i, rfl, q⟩
end Rv
namespace Rv
open PySem PySem.Spec PyProof.Rows L2 RL RQ
theorem flat_one (n : Nat) (x : V) : (List.replicate n [x]).flatten = List.replicate n x := by
  induction n with
  | zero => rfl
  | succ n ih => rw [List.replicate_succ, List.flatten_cons, ih, List.replicate_succ]; rfl
end Rv
namespace Rv
open PySem PySem.Spec PyProof.Rows L2 RL RQ
theorem fl_next {p : Nat → Bool} {l : List Nat} {i : Nat} (h : i < l.length) : (l.take (i + 1)).filter p = (l.take i).filter p ++ if p l[i] = true then [l[i]] else [] := by
  rw [take_next h, List.filter_append]
  congr 1
  by_cases z : p l[i] = true
  · rw [if_pos z, List.filter_cons_of_pos z]; rfl
  · rw [if_neg z, List.filter_cons_of_neg z]; rfl
theorem fr_next {p : Nat → Bool} (i : Nat) : (List.range (i + 1)).filter p = (List.range i).filter p ++ if p i = true then [i] else [] := by
  rw [List.range_succ, List.filter_append]
  congr 1
  by_cases z : p i = true
  · rw [if_pos z, List.filter_cons_of_pos z]; rfl
  · rw [if_neg z, List.filter_cons_of_neg z]; rfl
end Rv
namespace Rv
open PySem PySem.Spec PyProof.Rows L2 RL RQ
theorem set_get {es : List Int} {i j : Nat} {e : Int} (h : i < es.length) : (es.set i e).getD j 0 = if i = j then e else es.getD j 0 := by
  rw [List.getD_eq_getElem?_getD, List.getElem?_set]
  by_cases z : i = j
  · rw [if_pos z, if_pos z, if_pos h]; rfl
  · rw [if_neg z, if_neg z, List.getD_eq_getElem?_getD]
end Rv
namespace Rv
open PySem PySem.Spec PyProof.Rows L2 RL RQ
end Rv
namespace Rv
open PySem PySem.Spec PyProof.Rows L2 RL RQ
/-- an item whose data are told -/
def ImD (it : Im) : Prop := ∃ d : PyData, Sh 1 d ∧ ∀ (K : PySem.W.Frag) (M : List Addr) (H : Hp) (v : V), ImAt M H v it → Dp K H v d
/-- how the law marks a line -/
def MkL (n m : Nat) (it : Im) : Prop := (m = 0 ∧ ∃ r : Ln, it = .tup r.vals ∧ LnOk n r ∧ Care r) ∨ (m = 1 ∧ ∃ r : Ln, it = .tup r.vals ∧ LnOk n r ∧ ¬ Care r) ∨ (m = 2 ∧ ¬ Good n it)
structure LnMs (n : Nat) (is : List Im) (ms : List Nat) : Prop where
  len : is.length = ms.length
  mkd : ∀ (i : Nat) (it : Im) (m : Nat), is[i]? = some it → ms[i]? = some m → MkL n m it
  ok : ∀ it ∈ is, Wf it ∧ ImD it
end Rv
/-! the mathematics of plans: paths of moves whose looks never repeat -/
namespace RV
open RL RQ Rv
def mv (g : List Int) (t s : Nat) : List Int := (g.set t (g.getD s 0)).set s (-1)
/-- each move goes from a full to an empty block, no look comes twice -/
def climb : List Int → List (List Nat) → List (Nat × Nat) → List Int → List (List Nat) → Prop
  | g, V, [], g', V' => g' = g ∧ V' = V
  | g, V, (t, s) :: ms, g', V' => t < g.length ∧ s < g.length ∧ g.getD t 0 = -1 ∧ g.getD s 0 ≠ -1 ∧ codes (mv g t s) ∉ V ∧ climb (mv g t s) (V ++ [codes (mv g t s)]) ms g' V'
theorem climb.app : ∀ {a b : List (Nat × Nat)} {g g' g'' : List Int} {V V' V'' : List (List Nat)}, climb g V a g' V' → climb g' V' b g'' V'' → climb g V (a ++ b) g'' V''
  | [], b, g, g', g'', V, V', V'', h, k => by obtain ⟨rfl, rfl⟩ := h; exact k
  | (t, s) :: a, b, g, g', g'', V, V', V'', h, k => ⟨h.1, h.2.1, h.2.2.1, h.2.2.2.1, h.2.2.2.2.1, climb.app h.2.2.2.2.2 k⟩
/-- entries in range -/
def Rg (g : List Int) : Prop := ∀ e ∈ g, -1 ≤ e ∧ e ≤ 999
theorem sg_46 {e : Int} (h : -1 ≤ e ∧ e ≤ 999) : sg e = 46 ↔ e = -1 := by
  unfold sg
  by_cases z : e = -1
  · rw [if_pos z]; exact ⟨fun _ => z, fun _ => rfl⟩
  · rw [if_neg z]
    exact ⟨fun k => by omega, fun k => absurd k z⟩
theorem codes_at {g : List Int} {i : Nat} (h : i < g.length) : (codes g).getD i 0 = sg (g.getD i 0) := by
  unfold codes
  rw [List.getD_eq_getElem?_getD, List.getElem?_map, get_at h]; rfl
theorem code_46 {g : List Int} (R : Rg g) {i : Nat} (h : i < g.length) : (codes g).getD i 0 = 46 ↔ g.getD i 0 = -1 := by
  rw [codes_at h]
  exact sg_46 (R _ (mem_at h))
theorem mv_len (g : List Int) (t s : Nat) : (mv g t s).length = g.length := by unfold mv; rw [List.length_set, List.length_set]
theorem mv_at {g : List Int} {t s : Nat} (ht : t < g.length) (hs : s < g.length) (i : Nat) : (mv g t s).getD i 0 = if s = i then -1 else if t = i then g.getD s 0 else g.getD i 0 := by
  unfold mv
  rw [set_get (by rw [List.length_set]; exact hs)]
  by_cases z : s = i
  · rw [if_pos z, if_pos z]
  · rw [if_neg z, if_neg z, set_get ht]
theorem mv_rg {g : List Int} {t s : Nat} (R : Rg g) (hs : s < g.length) : Rg (mv g t s) := fun e he => by
  unfold mv at he
  rcases List.mem_or_eq_of_mem_set he with k | k
  · rcases List.mem_or_eq_of_mem_set k with k2 | k2
    · exact R e k2
    · rw [k2]; exact R _ (mem_at hs)
  · rw [k]; exact ⟨by decide, by decide⟩
def along (p : List Nat) : List (Nat × Nat) := p.zip p.tail
theorem along_cons (x y : Nat) (r : List Nat) : along (x :: y :: r) = (x, y) :: along (y :: r) := rfl
theorem along_len : ∀ p : List Nat, (along p).length = p.length - 1
  | [] => rfl
  | [x] => rfl
  | x :: y :: r => by rw [along_cons, List.length_cons, along_len (y :: r)]; simp
def shift : List Int → List Nat → List Int
  | g, x :: y :: r => shift (mv g x y) (y :: r)
  | g, _ => g
theorem shift_len : ∀ (p : List Nat) (g : List Int), (shift g p).length = g.length
  | [], g => rfl
  | [x], g => rfl
  | x :: y :: r, g => by
    show (shift (mv g x y) (y :: r)).length = _
    rw [shift_len (y :: r), mv_len]
theorem shift_out : ∀ (p : List Nat) (g : List Int), (∀ x ∈ p, x < g.length) → ∀ z, z ∉ p → (shift g p).getD z 0 = g.getD z 0
  | [], g, _, z, _ => rfl
  | [x], g, _, z, _ => rfl
  | x :: y :: r, g, lt, z, hz => by
    have lx := lt x (List.mem_cons_self ..)
    have ly := lt y (List.mem_cons_of_mem _ (List.mem_cons_self ..))
    show (shift (mv g x y) (y :: r)).getD z 0 = _
    rw [shift_out (y :: r) (mv g x y) (fun u hu => by rw [mv_len]; exact lt u (List.mem_cons_of_mem _ hu)) z (fun h => hz (List.mem_cons_of_mem _ h)), mv_at lx ly, if_neg (fun e => hz (by rw [← e]; exact List.mem_cons_of_mem _ (List.mem_cons_self ..))), if_neg (fun e => hz (by rw [← e]; exact List.mem_cons_self ..))]
/-- behind a path each block has what the next one had -/
theorem shift_at : ∀ (u : List Nat) (g : List Int) (b b' : Nat) (w : List Nat), (u ++ b :: b' :: w).Nodup → (∀ x ∈ u ++ b :: b' :: w, x < g.length) → (shift g (u ++ b :: b' :: w)).getD b 0 = g.getD b' 0
  | [], g, b, b', w, nd, lt => by
    have lb := lt b (List.mem_cons_self ..)
    have lb' := lt b' (List.mem_cons_of_mem _ (List.mem_cons_self ..))
    have nb := (List.nodup_cons.mp nd).1
    show (shift (mv g b b') (b' :: w)).getD b 0 = _
    rw [shift_out (b' :: w) _ (fun u hu => by rw [mv_len]; exact lt u (List.mem_cons_of_mem _ hu)) b nb, mv_at lb lb', if_neg (fun e => nb (by rw [← e]; exact List.mem_cons_self ..)), if_pos rfl]
  | x :: u, g, b, b', w, nd, lt => by
    obtain ⟨y, r, e⟩ : ∃ y r, u ++ b :: b' :: w = y :: r := by
      cases u with
      | nil => exact ⟨_, _, rfl⟩
      | cons y u => exact ⟨_, _, rfl⟩
    have nd2 := List.nodup_cons.mp nd
    have lx := lt x (List.mem_cons_self ..)
    have ly : y < g.length := lt y (List.mem_cons_of_mem _ (show y ∈ u ++ b :: b' :: w by rw [e]; exact List.mem_cons_self ..))
    have ih := shift_at u (mv g x y) b b' w nd2.2 (fun z hz => by rw [mv_len]; exact lt z (List.mem_cons_of_mem _ hz))
    have es : shift g (x :: u ++ b :: b' :: w) = shift (mv g x y) (u ++ b :: b' :: w) := by
      rw [List.cons_append, e]; rfl
    have hb' : b' ∈ u ++ b :: b' :: w := List.mem_append_right _ (List.mem_cons_of_mem _ (List.mem_cons_self ..))
    rw [es, ih, mv_at lx ly]
    have n1 : y ≠ b' := fun z => by
      have nd3 := nd2.2
      cases u with
      | nil =>
        have e1 : b = y := (List.cons.inj e).1
        have := (List.nodup_cons.mp nd3).1
        rw [e1, z] at this
        exact this (List.mem_cons_self ..)
      | cons y2 u2 =>
        have e1 : y2 = y := (List.cons.inj e).1
        have := (List.nodup_cons.mp nd3).1
        rw [e1, z] at this
        exact this (List.mem_append_right _ (List.mem_cons_of_mem _ (List.mem_cons_self ..)))
    have n2 : x ≠ b' := fun z => nd2.1 (by rw [z]; exact hb')
    rw [if_neg n1, if_neg n2]
theorem shift_end : ∀ (u : List Nat) (g : List Int) (b : Nat), u ≠ [] → (u ++ [b]).Nodup → (∀ x ∈ u ++ [b], x < g.length) → (shift g (u ++ [b])).getD b 0 = -1
  | [], g, b, h, _, _ => absurd rfl h
  | [x], g, b, _, nd, lt => by
    show (mv g x b).getD b 0 = -1
    rw [mv_at (lt x (List.mem_cons_self ..)) (lt b (by simp)), if_pos rfl]
  | x :: y :: u, g, b, _, nd, lt => by
    have nd2 := List.nodup_cons.mp nd
    exact shift_end (y :: u) (mv g x y) b (by simp) nd2.2 fun z hz => by rw [mv_len]; exact lt z (List.mem_cons_of_mem _ hz)
theorem shift_rg : ∀ (p : List Nat) (g : List Int), Rg g → (∀ x ∈ p, x < g.length) → Rg (shift g p)
  | [], g, R, _ => R
  | [x], g, R, _ => R
  | x :: y :: r, g, R, lt => shift_rg (y :: r) (mv g x y) (mv_rg R (lt y (List.mem_cons_of_mem _ (List.mem_cons_self ..)))) fun z hz => by rw [mv_len]; exact lt z (List.mem_cons_of_mem _ hz)
/-- along a path of full blocks from an empty one; what an older look differs by -/
def Sep (g : List Int) (p : List Nat) (v : List Nat) : Prop := ∃ z, z < g.length ∧ z ∉ p ∧ v.getD z 0 ≠ (codes g).getD z 0
def FullIn (r : List Nat) (v : List Nat) : Prop := ∀ y ∈ r, v.getD y 0 ≠ 46
structure Walked (g : List Int) (x : Nat) (r : List Nat) (W : List (List Nat)) : Prop where
  out : ∀ v ∈ W, ∀ z, z < g.length → z ∉ x :: r → v.getD z 0 = (codes g).getD z 0
  hd : ∀ v ∈ W, v.getD x 0 ≠ 46
  last : ∃ W0, (r = [] ∧ W0 = [] ∧ W = []) ∨ (W = W0 ++ [codes (shift g (x :: r))] ∧ ∀ v ∈ W0, v.getD ((x :: r).getLastD 0) 0 ≠ 46)
theorem path_climb : ∀ (r : List Nat) (x : Nat) (g : List Int) (V : List (List Nat)), Rg g → (x :: r).Nodup → (∀ z ∈ x :: r, z < g.length) → g.getD x 0 = -1 → (∀ y ∈ r, g.getD y 0 ≠ -1) → (∀ v ∈ V, Sep g (x :: r) v ∨ FullIn r v) →
    ∃ W, climb g V (along (x :: r)) (shift g (x :: r)) (V ++ W) ∧ Walked g x r W
  | [], x, g, V, R, nd, lt, hx, hr, sep => ⟨[], ⟨rfl, List.append_nil _⟩, ⟨fun v hv => (List.not_mem_nil hv).elim, fun v hv => (List.not_mem_nil hv).elim, [], .inl ⟨rfl, rfl, rfl⟩⟩⟩
  | y :: r, x, g, V, R, nd, lt, hx, hr, sep => by
    have nd2 := List.nodup_cons.mp nd
    have nd3 := List.nodup_cons.mp nd2.2
    have lx := lt x (List.mem_cons_self ..)
    have ly := lt y (List.mem_cons_of_mem _ (List.mem_cons_self ..))
    have fy := hr y (List.mem_cons_self ..)
    have R1 := mv_rg (t := x) R ly
    have l1 : (mv g x y).length = g.length := mv_len g x y
    have cy : (codes (mv g x y)).getD y 0 = 46 := (code_46 R1 (by rw [l1]; exact ly)).mpr (by rw [mv_at lx ly, if_pos rfl])
    have out1 : ∀ z, z < g.length → z ≠ x → z ≠ y → (codes (mv g x y)).getD z 0 = (codes g).getD z 0 := fun z hz n1 n2 => by
      rw [codes_at (by rw [l1]; exact hz), codes_at hz, mv_at lx ly, if_neg (fun e => n2 e.symm), if_neg (fun e => n1 e.symm)]
    have nx : y ≠ x := fun e => nd2.1 (by rw [← e]; exact List.mem_cons_self ..)
    have cx : (codes (mv g x y)).getD x 0 ≠ 46 := fun k => by
      have := (code_46 R1 (by rw [l1]; exact lx)).mp k
      rw [mv_at lx ly, if_neg nx, if_pos rfl] at this
      exact fy this
    have new : codes (mv g x y) ∉ V := fun m => by
      rcases sep _ m with ⟨z, z1, z2, z3⟩ | f
      · exact z3 (out1 z z1 (fun e => z2 (by rw [e]; exact List.mem_cons_self ..)) (fun e => z2 (by rw [e]; exact List.mem_cons_of_mem _ (List.mem_cons_self ..))))
      · exact f y (List.mem_cons_self ..) cy
    obtain ⟨W, c, wk⟩ := path_climb r y (mv g x y) (V ++ [codes (mv g x y)]) R1 nd2.2 (fun z hz => by rw [l1]; exact lt z (List.mem_cons_of_mem _ hz)) (by rw [mv_at lx ly, if_pos rfl]) (fun z hz => by
        rw [mv_at lx ly, if_neg (fun e => nd3.1 (by rw [e]; exact hz)), if_neg (fun e => nd2.1 (by rw [e]; exact List.mem_cons_of_mem _ hz))]
        exact hr z (List.mem_cons_of_mem _ hz)) (fun v hv => by
        rcases List.mem_append.mp hv with k | k
        · rcases sep v k with ⟨z, z1, z2, z3⟩ | f
          · refine .inl ⟨z, by rw [l1]; exact z1, fun h => z2 (List.mem_cons_of_mem _ h), ?_⟩
            rw [out1 z z1 (fun e => z2 (by rw [e]; exact List.mem_cons_self ..)) (fun e => z2 (by rw [e]; exact List.mem_cons_of_mem _ (List.mem_cons_self ..)))]
            exact z3
          · exact .inr fun z hz => f z (List.mem_cons_of_mem _ hz)
        · rw [List.mem_singleton.mp k]
          refine .inr fun z hz q => ?_
          have := (code_46 R1 (by rw [l1]; exact lt z (List.mem_cons_of_mem _ (List.mem_cons_of_mem _ hz)))).mp q
          rw [mv_at lx ly, if_neg (fun e => nd3.1 (by rw [e]; exact hz)), if_neg (fun e => nd2.1 (by rw [e]; exact List.mem_cons_of_mem _ hz))] at this
          exact hr z (List.mem_cons_of_mem _ hz) this)
    refine ⟨codes (mv g x y) :: W, ?_, ?_, ?_, ?_⟩
    · rw [List.append_assoc] at c
      exact ⟨lx, ly, hx, fy, new, c⟩
    · intro v hv z z1 z2
      have n1 : z ≠ x := fun e => z2 (by rw [e]; exact List.mem_cons_self ..)
      have n2 : z ≠ y := fun e => z2 (by rw [e]; exact List.mem_cons_of_mem _ (List.mem_cons_self ..))
      rcases List.mem_cons.mp hv with rfl | k
      · exact out1 z z1 n1 n2
      · rw [wk.out v k z (by rw [l1]; exact z1) (fun h => z2 (List.mem_cons_of_mem _ h)), out1 z z1 n1 n2]
    · intro v hv
      rcases List.mem_cons.mp hv with rfl | k
      · exact cx
      · rw [wk.out v k x (by rw [l1]; exact lx) nd2.1]
        exact cx
    · obtain ⟨W0, h⟩ := wk.last
      rcases h with ⟨rfl, rfl, rfl⟩ | ⟨rfl, h⟩
      · exact ⟨[], .inr ⟨rfl, fun v hv => (List.not_mem_nil hv).elim⟩⟩
      · refine ⟨codes (mv g x y) :: W0, .inr ⟨rfl, fun v hv => ?_⟩⟩
        have el : (x :: y :: r).getLastD 0 = (y :: r).getLastD 0 := by
          rw [List.getLastD_eq_getLast?, List.getLastD_eq_getLast?]
          rfl
        rw [el]
        rcases List.mem_cons.mp hv with rfl | k
        · cases r with
          | nil =>
            obtain ⟨W0', hw⟩ := wk.last
            rcases hw with ⟨_, _, hw⟩ | ⟨hw, _⟩
            · exact absurd hw (by simp)
            · exfalso
              have c2 := c
              have : climb (mv g x y) (V ++ [codes (mv g x y)]) [] (shift (mv g x y) [y]) (V ++ [codes (mv g x y)] ++ (W0 ++ [codes (shift (mv g x y) [y])])) := c2
              have := this.2
              rw [List.append_right_eq_self] at this
              simp at this
          | cons y2 r2 =>
            have ml : (y :: y2 :: r2).getLastD 0 ∈ y2 :: r2 := by
              have : (y :: y2 :: r2).getLastD 0 = (y2 :: r2).getLastD 0 := by
                rw [List.getLastD_eq_getLast?, List.getLastD_eq_getLast?]
                rfl
              rw [this]
              exact last_mem (by simp)
            generalize (y :: y2 :: r2).getLastD 0 = L at *
            intro q
            have := (code_46 R1 (by rw [l1]; exact lt L (List.mem_cons_of_mem _ (List.mem_cons_of_mem _ ml)))).mp q
            rw [mv_at lx ly, if_neg (fun e => nd3.1 (by rw [e]; exact ml)), if_neg (fun e => nd2.1 (by rw [e]; exact List.mem_cons_of_mem _ ml))] at this
            exact hr L (List.mem_cons_of_mem _ ml) this
        · exact h v k
end RV
/-! plans: chains, rings opened and closed around them -/
namespace RV
open RL RQ Rv
def Nx (es fs : List Int) (c : List Nat) : Prop := ∀ u b b' w, c = u ++ b :: b' :: w → fs.getD b 0 = es.getD b' 0
structure Chn (es fs : List Int) (c : List Nat) : Prop where
  nd : c.Nodup
  lt : ∀ z ∈ c, z < es.length
  sh : ∃ x y r, c = x :: y :: r ∧ es.getD x 0 = -1 ∧ ∀ z ∈ y :: r, es.getD z 0 ≠ -1
  nx : Nx es fs c
  en : ∀ u b, c = u ++ [b] → fs.getD b 0 = -1
structure Cyc (es fs : List Int) (r : List Nat) : Prop where
  nd : r.Nodup
  lt : ∀ z ∈ r, z < es.length
  ne : r ≠ []
  fu : ∀ z ∈ r, es.getD z 0 ≠ -1
  nx : Nx es fs r
  en : ∀ u b x v, r = u ++ [b] → r = x :: v → fs.getD b 0 = es.getD x 0
def seqI (g : List Int) (cs : List (List Nat)) : List Int := cs.foldl shift g
theorem seqI_len : ∀ (cs : List (List Nat)) (g : List Int), (seqI g cs).length = g.length
  | [], _ => rfl
  | c :: cs, g => by show (seqI (shift g c) cs).length = _; rw [seqI_len cs, shift_len]
theorem seqI_out : ∀ (cs : List (List Nat)) (g : List Int), (∀ c ∈ cs, ∀ x ∈ c, x < g.length) → ∀ z, (∀ c ∈ cs, z ∉ c) → (seqI g cs).getD z 0 = g.getD z 0
  | [], _, _, _, _ => rfl
  | c :: cs, g, lt, z, hz => by
    show (seqI (shift g c) cs).getD z 0 = _
    rw [seqI_out cs (shift g c) (fun d hd x hx => by rw [shift_len]; exact lt d (List.mem_cons_of_mem _ hd) x hx) z (fun d hd => hz d (List.mem_cons_of_mem _ hd)), shift_out c g (lt c (List.mem_cons_self ..)) z (hz c (List.mem_cons_self ..))]
def Disj (cs : List (List Nat)) : Prop := cs.Pairwise fun a b => ∀ x ∈ a, x ∉ b
/-- the values behind a row of chains -/
theorem seqI_at : ∀ (cs : List (List Nat)) (g : List Int), (∀ c ∈ cs, c.Nodup ∧ ∀ x ∈ c, x < g.length) → Disj cs → ∀ c ∈ cs, ∀ b ∈ c, (∀ u b' w, c = u ++ b :: b' :: w → (seqI g cs).getD b 0 = g.getD b' 0) ∧ (∀ u, u ≠ [] → c = u ++ [b] → (seqI g cs).getD b 0 = -1)
  | [], _, _, _, c, hc, _, _ => (List.not_mem_nil hc).elim
  | d :: cs, g, ok, dj, c, hc, b, hb => by
    have dj2 := List.pairwise_cons.mp dj
    obtain ⟨ndd, ltd⟩ := ok d (List.mem_cons_self ..)
    have ok2 : ∀ e ∈ cs, e.Nodup ∧ ∀ x ∈ e, x < (shift g d).length := fun e he => ⟨(ok e (List.mem_cons_of_mem _ he)).1, fun x hx => by rw [shift_len]; exact (ok e (List.mem_cons_of_mem _ he)).2 x hx⟩
    rcases List.mem_cons.mp hc with rfl | hc
    · have out : (seqI (shift g c) cs).getD b 0 = (shift g c).getD b 0 := seqI_out cs _ (fun e he => (ok2 e he).2) b fun e he => dj2.1 e he b hb
      refine ⟨fun u b' w e => ?_, fun u hu e => ?_⟩
      · show (seqI (shift g c) cs).getD b 0 = _
        rw [out]
        subst e
        exact shift_at u g b b' w ndd ltd
      · show (seqI (shift g c) cs).getD b 0 = _
        rw [out]
        subst e
        exact shift_end u g b hu ndd ltd
    · obtain ⟨h1, h2⟩ := seqI_at cs (shift g d) ok2 dj2.2 c hc b hb
      refine ⟨fun u b' w e => ?_, h2⟩
      show (seqI (shift g d) cs).getD b 0 = _
      have hb' : b' ∈ c := by rw [e]; simp
      rw [h1 u b' w e, shift_out d g ltd b' fun k => dj2.1 c hc b' k hb']
theorem rg_full {g : List Int} (R : Rg g) {z : Nat} (hz : z < g.length) (h : g.getD z 0 ≠ -1) : (codes g).getD z 0 ≠ 46 := fun k => h ((code_46 R hz).mp k)
/-- chains one after another -/
theorem seq_climb : ∀ (cs : List (List Nat)) (g : List Int) (V : List (List Nat)), Rg g → (∀ c ∈ cs, c.Nodup ∧ (∀ z ∈ c, z < g.length) ∧ ∃ x r, c = x :: r ∧ g.getD x 0 = -1 ∧ ∀ y ∈ r, g.getD y 0 ≠ -1) → Disj cs → (∀ c ∈ cs, ∀ v ∈ V, FullIn c.tail v) → ∃ V', climb g V (cs.flatMap along) (seqI g cs) V'
  | [], g, V, _, _, _, _ => ⟨V, rfl, rfl⟩
  | c :: cs, g, V, R, ok, dj, fu => by
    have dj2 := List.pairwise_cons.mp dj
    obtain ⟨nd, lt, x, r, rfl, hx, hr⟩ := ok c (List.mem_cons_self ..)
    obtain ⟨W, cl, wk⟩ := path_climb r x g V R nd lt hx hr fun v hv => .inr (fu _ (List.mem_cons_self ..) v hv)
    have R1 := shift_rg (x :: r) g R lt
    have out : ∀ z, z ∉ x :: r → (shift g (x :: r)).getD z 0 = g.getD z 0 := fun z hz => shift_out _ g lt z hz
    obtain ⟨V', c2⟩ := seq_climb cs (shift g (x :: r)) (V ++ W) R1 (fun d hd => by
      obtain ⟨nd', lt', y, s, rfl, hy, hs⟩ := ok d (List.mem_cons_of_mem _ hd)
      have no : ∀ z ∈ y :: s, z ∉ x :: r := fun z hz k => dj2.1 _ hd z k hz
      exact ⟨nd', fun z hz => by rw [shift_len]; exact lt' z hz, y, s, rfl, by rw [out y (no y (List.mem_cons_self ..))]; exact hy, fun z hz => by rw [out z (no z (List.mem_cons_of_mem _ hz))]; exact hs z hz⟩) dj2.2 (fun d hd v hv => by
      obtain ⟨nd', lt', y, s, rfl, hy, hs⟩ := ok d (List.mem_cons_of_mem _ hd)
      rcases List.mem_append.mp hv with k | k
      · exact fu _ (List.mem_cons_of_mem _ hd) v k
      · intro z hz
        have hz2 : z ∈ y :: s := List.mem_cons_of_mem _ hz
        rw [wk.out v k z (lt' z hz2) fun q => dj2.1 _ hd z q hz2]
        exact rg_full R (lt' z hz2) (hs z hz))
    exact ⟨V', cl.app c2⟩
/-- all rows of a pair -/
structure Rows (es fs : List Int) (cs rs : List (List Nat)) : Prop where
  len : es.length = fs.length
  rg : Rg es
  ch : ∀ c ∈ cs, Chn es fs c
  cy : ∀ r ∈ rs, Cyc es fs r
  dj : Disj (cs ++ rs)
  rest : ∀ b, b < es.length → (∀ c ∈ cs ++ rs, b ∉ c) → es.getD b 0 = fs.getD b 0
theorem ext_getD {a b : List Int} (l : a.length = b.length) (h : ∀ i, i < b.length → a.getD i 0 = b.getD i 0) : a = b := by
  refine List.ext_getElem l fun i h1 h2 => ?_
  have := h i h2
  rw [getD_get h1, getD_get h2] at this
  exact this
theorem split_of {c : List Nat} {b : Nat} (h : b ∈ c) : ∃ u w, c = u ++ b :: w := List.append_of_mem h
/-- chains alone -/
theorem plan_chains {es fs : List Int} {cs : List (List Nat)} (S : Rows es fs cs []) : ∃ V, climb es [codes es] (cs.flatMap along) fs V := by
  have dj : Disj cs := by have := S.dj; rw [List.append_nil] at this; exact this
  have lt : ∀ c ∈ cs, ∀ x ∈ c, x < es.length := fun c hc => (S.ch c hc).lt
  obtain ⟨V, c⟩ := seq_climb cs es [codes es] S.rg (fun c hc => by
    have k := S.ch c hc
    obtain ⟨x, y, r, e, h1, h2⟩ := k.sh
    exact ⟨k.nd, k.lt, x, y :: r, e, h1, h2⟩) dj (fun c hc v hv => by
    obtain ⟨x, y, r, e, h1, h2⟩ := (S.ch c hc).sh
    rw [List.mem_singleton.mp hv, e]
    exact fun z hz => rg_full S.rg ((S.ch c hc).lt z (by rw [e]; exact List.mem_cons_of_mem _ hz)) (h2 z hz))
  refine ⟨V, ?_⟩
  have e : seqI es cs = fs := by
    refine ext_getD (by rw [seqI_len, S.len]) fun b hb => ?_
    by_cases k : ∃ c ∈ cs, b ∈ c
    · obtain ⟨c, hc, hbc⟩ := k
      have kc := S.ch c hc
      obtain ⟨h1, h2⟩ := seqI_at cs es (fun c hc => ⟨(S.ch c hc).nd, (S.ch c hc).lt⟩) dj c hc b hbc
      obtain ⟨u, w, e⟩ := split_of hbc
      cases w with
      | nil =>
        rw [h2 u (fun z => by
          obtain ⟨x, y, r, e2, _⟩ := kc.sh
          rw [e2, z] at e
          simp at e) e, kc.en u b e]
      | cons b' w => rw [h1 u b' w e, kc.nx u b b' w e]
    · rw [seqI_out cs es lt b fun c hc m => k ⟨c, hc, m⟩]
      exact S.rest b (by rw [S.len]; exact hb) fun c hc m => by
        rw [List.append_nil] at hc
        exact k ⟨c, hc, m⟩
  rw [← e]
  exact c
/-- what comes between the opening and the closing -/
structure Mid (fs gA : List Int) (VA : List (List Nat)) (ms : List (Nat × Nat)) (gB : List Int) (WB : List (List Nat)) (Bm : List Nat) : Prop where
  cl : climb gA VA ms gB (VA ++ WB)
  rg : Rg gB
  len : gB.length = gA.length
  out : ∀ z, z ∉ Bm → gB.getD z 0 = gA.getD z 0
  vout : ∀ v ∈ WB, ∀ z, z < gA.length → z ∉ Bm → v.getD z 0 = (codes gA).getD z 0
  sep : ∃ W0, WB = W0 ++ [codes gB] ∧ ∀ v ∈ VA ++ W0, ∃ z, z < gA.length ∧ z ∈ Bm ∧ v.getD z 0 ≠ (codes gB).getD z 0
  fin : ∀ b ∈ Bm, gB.getD b 0 = fs.getD b 0
theorem last_split {p : List Nat} (h : p ≠ []) : ∃ u, p = u ++ [p.getLastD 0] := by
  refine ⟨p.dropLast, ?_⟩
  have := List.dropLast_concat_getLast h
  rw [List.getLastD_eq_getLast?, List.getLast?_eq_some_getLast h]
  exact this.symm
/-- a chain as what comes between -/
theorem mid_chain {es fs gA : List Int} {c : List Nat} {VA : List (List Nat)} (k : Chn es fs c) (R : Rg gA) (l : gA.length = es.length) (same : ∀ z ∈ c, gA.getD z 0 = es.getD z 0) (full : ∀ v ∈ VA, ∀ z ∈ c, v.getD z 0 = (codes es).getD z 0) (Re : Rg es) :
    ∃ WB, Mid fs gA VA (along c) (shift gA c) WB c := by
  obtain ⟨x, y, r, e, h1, h2⟩ := k.sh
  have nd := k.nd
  have lt := k.lt
  have nx := k.nx
  have en := k.en
  subst e
  have ltA : ∀ z ∈ x :: y :: r, z < gA.length := fun z hz => by rw [l]; exact lt z hz
  have fV : ∀ v ∈ VA, FullIn (y :: r) v := fun v hv z hz => by
    rw [full v hv z (List.mem_cons_of_mem _ hz)]
    exact rg_full Re (lt z (List.mem_cons_of_mem _ hz)) (h2 z hz)
  obtain ⟨W, cl, wk⟩ := path_climb (y :: r) x gA VA R nd ltA (by rw [same x (List.mem_cons_self ..)]; exact h1) (fun z hz => by rw [same z (List.mem_cons_of_mem _ hz)]; exact h2 z hz) fun v hv => .inr (fV v hv)
  have Rg' := shift_rg (x :: y :: r) gA R ltA
  obtain ⟨u, eu⟩ := last_split (p := x :: y :: r) (by simp)
  have un : u ≠ [] := fun z => by rw [z] at eu; simp at eu
  have lm : (x :: y :: r).getLastD 0 ∈ y :: r := by
    have : (x :: y :: r).getLastD 0 = (y :: r).getLastD 0 := by
      rw [List.getLastD_eq_getLast?, List.getLastD_eq_getLast?]; rfl
    rw [this]
    exact last_mem (by simp)
  have eend : (shift gA (x :: y :: r)).getD ((x :: y :: r).getLastD 0) 0 = -1 := by
    generalize (x :: y :: r).getLastD 0 = L at *
    rw [eu]
    exact shift_end u gA L un (by rw [← eu]; exact nd) (by rw [← eu]; exact ltA)
  obtain ⟨W0, hW⟩ := wk.last
  obtain ⟨eW, hW0⟩ := hW.resolve_left fun z => by cases z.1
  have lL := lt _ (List.mem_cons_of_mem _ lm)
  refine ⟨W, cl, Rg', shift_len _ _, fun z hz => shift_out _ gA ltA z hz, fun v hv z hz hn => wk.out v hv z hz hn, ⟨W0, eW, fun v hv => ⟨_, by rw [l]; exact lL, List.mem_cons_of_mem _ lm, ?_⟩⟩, fun b hb => ?_⟩
  · rw [(code_46 Rg' (by rw [shift_len, l]; exact lL)).mpr eend]
    rcases List.mem_append.mp hv with q | q
    · exact fV v q _ lm
    · exact hW0 v q
  · obtain ⟨u2, w, e⟩ := split_of hb
    cases w with
    | nil =>
      rw [en u2 b e]
      have : u2 ≠ [] := fun z => by rw [z] at e; simp at e
      rw [e]
      exact shift_end u2 gA b this (by rw [← e]; exact nd) (by rw [← e]; exact ltA)
    | cons b' w =>
      have := nx u2 b b' w e
      rw [this, ← same b' (by rw [e]; simp), e]
      exact shift_at u2 gA b b' w (by rw [← e]; exact nd) (by rw [← e]; exact ltA)
theorem along_snoc : ∀ (p : List Nat) (a b : Nat), along (p ++ [a, b]) = along (p ++ [a]) ++ [(a, b)]
  | [], a, b => rfl
  | [x], a, b => rfl
  | x :: y :: r, a, b => by
    show (x, y) :: along (y :: r ++ [a, b]) = (x, y) :: along (y :: r ++ [a]) ++ [(a, b)]
    rw [along_snoc (y :: r) a b]; rfl
/-- a ring that changes the look, walked by an empty block -/
theorem mid_ring {es fs gA : List Int} {r : List Nat} {e0 : Nat} {VA : List (List Nat)} (k : Cyc es fs r) (R : Rg gA) (l : gA.length = es.length) (Re : Rg es) (lf : es.length = fs.length) (le0 : e0 < es.length) (he0 : es.getD e0 0 = -1) (hf0 : fs.getD e0 0 = -1)
    (same : ∀ z ∈ e0 :: r, gA.getD z 0 = es.getD z 0) (full : ∀ v ∈ VA, ∀ z ∈ e0 :: r, v.getD z 0 = (codes es).getD z 0) (rec : ∃ b ∈ r, (codes es).getD b 0 ≠ (codes fs).getD b 0) (Rf : Rg fs) :
    ∃ gB WB, Mid fs gA VA (along (e0 :: r ++ [e0])) gB WB (e0 :: r) := by
  obtain ⟨h, t, er⟩ : ∃ h t, r = h :: t := by
    cases r with
    | nil => exact absurd rfl k.ne
    | cons h t => exact ⟨h, t, rfl⟩
  have nr : e0 ∉ r := fun m => k.fu e0 m he0
  have nd : (e0 :: r).Nodup := List.nodup_cons.mpr ⟨nr, k.nd⟩
  have lt : ∀ z ∈ e0 :: r, z < gA.length := fun z hz => by
    rw [l]
    rcases List.mem_cons.mp hz with rfl | q
    · exact le0
    · exact k.lt z q
  have fV : ∀ v ∈ VA, FullIn r v := fun v hv z hz => by
    rw [full v hv z (List.mem_cons_of_mem _ hz)]
    exact rg_full Re (k.lt z hz) (k.fu z hz)
  obtain ⟨W, cl, wk⟩ := path_climb r e0 gA VA R nd lt (by rw [same e0 (List.mem_cons_self ..)]; exact he0) (fun z hz => by rw [same z (List.mem_cons_of_mem _ hz)]; exact k.fu z hz) fun v hv => .inr (fV v hv)
  obtain ⟨u, eu⟩ := last_split k.ne
  generalize hL : r.getLastD 0 = L at *
  have Lr : L ∈ r := by rw [eu]; simp
  have Rg1 := shift_rg (e0 :: r) gA R lt
  have l1 : (shift gA (e0 :: r)).length = gA.length := shift_len _ _
  have ee : e0 :: r = (e0 :: u) ++ [L] := by rw [List.cons_append, ← eu]
  have hLe : (shift gA (e0 :: r)).getD L 0 = -1 := by
    rw [ee]
    exact shift_end (e0 :: u) gA L (by simp) (by rw [← ee]; exact nd) (by rw [← ee]; exact lt)
  have h0 : (shift gA (e0 :: r)).getD e0 0 = es.getD h 0 := by
    have := shift_at [] gA e0 h t (by rw [er] at nd; exact nd) (by rw [er] at lt; exact lt)
    rw [er]
    rw [show e0 :: h :: t = [] ++ e0 :: h :: t from rfl, this, same h (by rw [er]; simp)]
  have f0 : (shift gA (e0 :: r)).getD e0 0 ≠ -1 := by rw [h0]; exact k.fu h (by rw [er]; exact List.mem_cons_self ..)
  have lL := lt L (List.mem_cons_of_mem _ Lr)
  have l0 := lt e0 (List.mem_cons_self ..)
  have mvat := fun i => mv_at (g := shift gA (e0 :: r)) (t := L) (s := e0) (by rw [l1]; exact lL) (by rw [l1]; exact l0) i
  have neL : L ≠ e0 := fun z => nr (by rw [← z]; exact Lr)
  have RgB : Rg (mv (shift gA (e0 :: r)) L e0) := mv_rg Rg1 (by rw [l1]; exact l0)
  have lB : (mv (shift gA (e0 :: r)) L e0).length = gA.length := by rw [mv_len, l1]
  have e0B : (mv (shift gA (e0 :: r)) L e0).getD e0 0 = -1 := by rw [mvat, if_pos rfl]
  have finB : ∀ b ∈ r, (mv (shift gA (e0 :: r)) L e0).getD b 0 = fs.getD b 0 := fun b hb => by
    have nb : e0 ≠ b := fun z => nr (by rw [z]; exact hb)
    rw [mvat, if_neg nb]
    by_cases z : L = b
    · rw [if_pos z, h0, ← z, k.en u L h t eu er]
    · rw [if_neg z]
      obtain ⟨u2, w, e⟩ := split_of hb
      cases w with
      | nil =>
        exfalso
        rw [eu] at e
        exact z (List.append_inj' e rfl |>.2 |> fun q => (List.cons.inj q).1)
      | cons b' w =>
        have e2 : e0 :: r = (e0 :: u2) ++ b :: b' :: w := by rw [List.cons_append, ← e]
        rw [k.nx u2 b b' w e, ← same b' (List.mem_cons_of_mem _ (by rw [e]; simp)), e2]
        exact shift_at (e0 :: u2) gA b b' w (by rw [← e2]; exact nd) (by rw [← e2]; exact lt)
  obtain ⟨b0, hb0, nb0⟩ := rec
  have lb0 := lt b0 (List.mem_cons_of_mem _ hb0)
  have cb0 : (codes (mv (shift gA (e0 :: r)) L e0)).getD b0 0 = (codes fs).getD b0 0 := by
    rw [codes_at (by rw [lB]; exact lb0), codes_at (by rw [← lf, ← l]; exact lb0), finB b0 hb0]
  have c0 : (codes (mv (shift gA (e0 :: r)) L e0)).getD e0 0 = 46 := (code_46 RgB (by rw [lB]; exact l0)).mpr e0B
  have sepA : ∀ v ∈ VA ++ W, ∃ z, z < gA.length ∧ z ∈ e0 :: r ∧ v.getD z 0 ≠ (codes (mv (shift gA (e0 :: r)) L e0)).getD z 0 := fun v hv => by
    rcases List.mem_append.mp hv with q | q
    · refine ⟨b0, lb0, List.mem_cons_of_mem _ hb0, ?_⟩
      rw [cb0, full v q b0 (List.mem_cons_of_mem _ hb0)]
      exact nb0
    · refine ⟨e0, l0, List.mem_cons_self .., ?_⟩
      rw [c0]
      exact wk.hd v q
  refine ⟨mv (shift gA (e0 :: r)) L e0, W ++ [codes (mv (shift gA (e0 :: r)) L e0)], ?_, RgB, lB, fun z hz => ?_, fun v hv z hz hn => ?_, ⟨W, rfl, sepA⟩, fun b hb => ?_⟩
  · have ea : along (e0 :: r ++ [e0]) = along (e0 :: r) ++ [(L, e0)] := by
      have := along_snoc (e0 :: u) L e0
      rw [show e0 :: u ++ [L, e0] = e0 :: r ++ [e0] by rw [eu]; simp, show e0 :: u ++ [L] = e0 :: r by rw [eu]; simp] at this
      exact this
    rw [ea]
    refine cl.app ⟨by rw [l1]; exact lL, by rw [l1]; exact l0, hLe, f0, fun m => ?_, rfl, by rw [List.append_assoc]⟩
    obtain ⟨z, _, _, q⟩ := sepA _ m
    exact q rfl
  · rw [mvat, if_neg (fun e => hz (by rw [← e]; exact List.mem_cons_self ..)), if_neg (fun e => hz (by rw [← e]; exact List.mem_cons_of_mem _ Lr))]
    exact shift_out _ gA lt z hz
  · rcases List.mem_append.mp hv with q | q
    · exact wk.out v q z hz hn
    · rw [List.mem_singleton.mp q, codes_at (by rw [lB]; exact hz), codes_at hz, mvat, if_neg (fun e => hn (by rw [← e]; exact List.mem_cons_self ..)), if_neg (fun e => hn (by rw [← e]; exact List.mem_cons_of_mem _ Lr)), shift_out _ gA lt z hn]
  · rcases List.mem_cons.mp hb with rfl | q
    · rw [e0B, hf0]
    · exact finB b q
end RV
/-! plans: rings around what comes between -/
namespace RV
open RL RQ Rv
def lst (r : List Nat) : Nat := r.getLastD 0
theorem lst_split {r : List Nat} (h : r ≠ []) : ∃ u, r = u ++ [lst r] := last_split h
theorem lst_cons (x y : Nat) (r : List Nat) : lst (x :: y :: r) = lst (y :: r) := by
  unfold lst
  rw [List.getLastD_eq_getLast?, List.getLastD_eq_getLast?]; rfl
theorem lst_app : ∀ (u : List Nat) (b b' : Nat) (w : List Nat), lst (u ++ b :: b' :: w) = lst (b' :: w)
  | [], b, b', w => lst_cons b b' w
  | [x], b, b', w => by rw [List.singleton_append, lst_cons, lst_cons]
  | x :: y :: u, b, b', w => by
    rw [List.cons_append, List.cons_append, lst_cons]
    exact lst_app (y :: u) b b' w
theorem lst_mem {r : List Nat} (h : r ≠ []) : lst r ∈ r := by
  obtain ⟨u, e⟩ := lst_split h
  generalize lst r = L at *
  rw [e]; simp
theorem lasts_sub : ∀ {rs : List (List Nat)}, (∀ r ∈ rs, r ≠ []) → (rs.map lst).Sublist rs.flatten
  | [], _ => List.Sublist.slnil
  | r :: rs, h => by
    have h1 : [lst r].Sublist r := List.singleton_sublist.mpr (lst_mem (h r (List.mem_cons_self ..)))
    have h2 := lasts_sub fun q hq => h q (List.mem_cons_of_mem _ hq)
    have := h1.append h2
    rw [List.map_cons, List.flatten_cons]
    exact this
/-- where the closing path meets the opening one -/
theorem meet {sp : Nat} : ∀ {pre : List (List Nat)}, (∀ r ∈ pre, r ≠ []) → ∃ u m w, sp :: pre.flatten = u ++ [m] ∧ pre.reverse.map lst ++ [sp] = m :: w := by
  intro pre h
  rcases List.eq_nil_or_concat pre with rfl | ⟨p, r, rfl⟩
  · exact ⟨[], sp, [], rfl, rfl⟩
  · have hr := h r (by simp)
    obtain ⟨u, e⟩ := lst_split hr
    refine ⟨sp :: (p.flatten ++ u), lst r, p.reverse.map lst ++ [sp], ?_, by simp⟩
    generalize lst r = L at *
    rw [List.concat_eq_append, List.flatten_append, e]; simp
theorem flat_nodup : ∀ {rs : List (List Nat)}, (∀ r ∈ rs, r.Nodup) → Disj rs → rs.flatten.Nodup
  | [], _, _ => List.nodup_nil
  | r :: rs, h, d => by
    have d2 := List.pairwise_cons.mp d
    rw [List.flatten_cons, List.nodup_append]
    refine ⟨h r (List.mem_cons_self ..), flat_nodup (fun q hq => h q (List.mem_cons_of_mem _ hq)) d2.2, fun a ha b hb e => ?_⟩
    obtain ⟨q, hq, hbq⟩ := List.mem_flatten.mp hb
    exact d2.1 q hq a ha (by rw [e]; exact hbq)
theorem split_ofL {c : List (List Nat)} {b : List Nat} (h : b ∈ c) : ∃ u w, c = u ++ b :: w := List.append_of_mem h
theorem around {es fs : List Int} {cs rs : List (List Nat)} {Bm : List Nat} {sp : Nat} {ms : List (Nat × Nat)} (Re : Rg es) (len : es.length = fs.length) (ch : ∀ c ∈ cs, Chn es fs c) (cy : ∀ r ∈ rs, Cyc es fs r) (ne : rs ≠ []) (dj : Disj (cs ++ rs)) (Bl : ∀ z ∈ Bm, z < es.length) (djB : ∀ z ∈ Bm, z ≠ sp ∧ ∀ c ∈ cs ++ rs, z ∉ c) (lsp : sp < es.length) (hsp : es.getD sp 0 = -1)
    (rest : ∀ b, b < es.length → b ∉ Bm → (∀ c ∈ cs ++ rs, b ∉ c) → es.getD b 0 = fs.getD b 0)
    (mid : ∀ gA VA, Rg gA → gA.length = es.length → (∀ z ∈ Bm, gA.getD z 0 = es.getD z 0) → (∀ v ∈ VA, ∀ z ∈ Bm, v.getD z 0 = (codes es).getD z 0) → ∃ gB WB, Mid fs gA VA ms gB WB Bm) :
    ∃ V, climb es [codes es] (along (sp :: rs.flatten) ++ (ms ++ (along (rs.reverse.map lst ++ [sp]) ++ cs.flatMap along))) fs V := by
  have dj2 := List.pairwise_append.mp dj
  have djr : Disj rs := dj2.2.1
  have djc : Disj cs := dj2.1
  have rne : ∀ r ∈ rs, r ≠ [] := fun r hr => (cy r hr).ne
  have nsR : sp ∉ rs.flatten := fun m => by
    obtain ⟨r, hr, hm⟩ := List.mem_flatten.mp m
    exact (cy r hr).fu sp hm hsp
  have ndR : rs.flatten.Nodup := flat_nodup (fun r hr => (cy r hr).nd) djr
  have ndP : (sp :: rs.flatten).Nodup := List.nodup_cons.mpr ⟨nsR, ndR⟩
  have ltP : ∀ z ∈ sp :: rs.flatten, z < es.length := fun z hz => by
    rcases List.mem_cons.mp hz with rfl | q
    · exact lsp
    · obtain ⟨r, hr, hm⟩ := List.mem_flatten.mp q
      exact (cy r hr).lt z hm
  have fuR : ∀ z ∈ rs.flatten, es.getD z 0 ≠ -1 := fun z q => by
    obtain ⟨r, hr, hm⟩ := List.mem_flatten.mp q
    exact (cy r hr).fu z hm
  have BnP : ∀ z ∈ Bm, z ∉ sp :: rs.flatten := fun z hz q => by
    rcases List.mem_cons.mp q with e | q
    · exact (djB z hz).1 e
    · obtain ⟨r, hr, hm⟩ := List.mem_flatten.mp q
      exact (djB z hz).2 r (List.mem_append_right _ hr) hm
  -- the opening
  obtain ⟨WA, clA, wkA⟩ := path_climb rs.flatten sp es [codes es] Re ndP ltP hsp fuR fun v hv => .inr fun z hz => by
    rw [List.mem_singleton.mp hv]
    exact rg_full Re (ltP z (List.mem_cons_of_mem _ hz)) (fuR z hz)
  have RA := shift_rg (sp :: rs.flatten) es Re ltP
  have lA : (shift es (sp :: rs.flatten)).length = es.length := shift_len _ _
  have outA : ∀ z, z ∉ sp :: rs.flatten → (shift es (sp :: rs.flatten)).getD z 0 = es.getD z 0 := fun z hz => shift_out _ es ltP z hz
  have atA : ∀ u b b' w, sp :: rs.flatten = u ++ b :: b' :: w → (shift es (sp :: rs.flatten)).getD b 0 = es.getD b' 0 := fun u b b' w e => by
    rw [e]; exact shift_at u es b b' w (by rw [← e]; exact ndP) (by rw [← e]; exact ltP)
  have endA : ∀ u b, u ≠ [] → sp :: rs.flatten = u ++ [b] → (shift es (sp :: rs.flatten)).getD b 0 = -1 := fun u b hu e => by
    rw [e]; exact shift_end u es b hu (by rw [← e]; exact ndP) (by rw [← e]; exact ltP)
  have VAo : ∀ v ∈ [codes es] ++ WA, ∀ z, z < es.length → z ∉ sp :: rs.flatten → v.getD z 0 = (codes es).getD z 0 := fun v hv z hz hn => by
    rcases List.mem_append.mp hv with q | q
    · rw [List.mem_singleton.mp q]
    · exact wkA.out v q z hz hn
  generalize hgA : shift es (sp :: rs.flatten) = gA at *
  generalize hVA : [codes es] ++ WA = VA at *
  -- what comes between
  obtain ⟨gB, WB, M⟩ := mid gA VA RA lA (fun z hz => outA z (BnP z hz)) (fun v hv z hz => VAo v hv z (Bl z hz) (BnP z hz))
  have lB : gB.length = es.length := by rw [M.len, lA]
  have outB : ∀ z, z ∉ Bm → gB.getD z 0 = gA.getD z 0 := M.out
  have PnB : ∀ z ∈ sp :: rs.flatten, z ∉ Bm := fun z hz q => BnP z q hz
  -- the closing path
  obtain ⟨p0, rl, ers⟩ : ∃ p0 rl, rs = p0 ++ [rl] := by
    rcases List.eq_nil_or_concat rs with e | ⟨p, r, e⟩
    · exact absurd e ne
    · exact ⟨p, r, by rw [e, List.concat_eq_append]⟩
  have hrl : rl ∈ rs := by rw [ers]; simp
  have eq0 : rs.reverse.map lst ++ [sp] = lst rl :: (p0.reverse.map lst ++ [sp]) := by rw [ers]; simp
  have qsub : ∀ z ∈ rs.reverse.map lst ++ [sp], z ∈ sp :: rs.flatten := fun z hz => by
    rcases List.mem_append.mp hz with q | q
    · obtain ⟨r, hr, rfl⟩ := List.mem_map.mp q
      have hr := List.mem_reverse.mp hr
      exact List.mem_cons_of_mem _ (List.mem_flatten.mpr ⟨r, hr, lst_mem (rne r hr)⟩)
    · rw [List.mem_singleton.mp q]; exact List.mem_cons_self ..
  have ndq : (rs.reverse.map lst ++ [sp]).Nodup := by
    have h1 : (sp :: rs.map lst).Nodup := (List.Sublist.cons_cons sp (lasts_sub rne)).nodup ndP
    have h2 := (List.reverse_perm (sp :: rs.map lst)).nodup_iff.mpr h1
    rw [List.reverse_cons, ← List.map_reverse] at h2
    exact h2
  have atlast : ∀ pre r post, rs = pre ++ r :: post → ∃ m w h t, pre.reverse.map lst ++ [sp] = m :: w ∧ r = h :: t ∧ gA.getD m 0 = es.getD h 0 := fun pre r post e => by
    obtain ⟨u, m, w, e1, e2⟩ := meet (sp := sp) (pre := pre) fun q hq => rne q (by rw [e]; simp [hq])
    have hr : r ∈ rs := by rw [e]; simp
    obtain ⟨h, t, er⟩ : ∃ h t, r = h :: t := by
      cases r with
      | nil => exact absurd rfl (rne _ hr)
      | cons h t => exact ⟨h, t, rfl⟩
    refine ⟨m, w, h, t, e2, er, ?_⟩
    refine atA u m h (t ++ post.flatten) ?_
    rw [e, List.flatten_append, List.flatten_cons, er, ← List.cons_append, e1]
    simp
  have lastfull : ∀ z ∈ p0.reverse.map lst ++ [sp], gA.getD z 0 ≠ -1 := fun z hz => by
    -- z is followed by a full block
    have : ∃ pre r post, rs = pre ++ r :: post ∧ ∃ w, pre.reverse.map lst ++ [sp] = z :: w := by
      rcases List.mem_append.mp hz with q | q
      · obtain ⟨r, hr, rfl⟩ := List.mem_map.mp q
        obtain ⟨a, b, e⟩ := split_ofL (List.mem_reverse.mp hr)
        cases b with
        | nil => exact ⟨a ++ [r], rl, [], by rw [ers, e], a.reverse.map lst ++ [sp], by simp⟩
        | cons r2 b => exact ⟨a ++ [r], r2, b ++ [rl], by rw [ers, e]; simp, a.reverse.map lst ++ [sp], by simp⟩
      · rw [List.mem_singleton.mp q]
        obtain ⟨r, b, e⟩ : ∃ r b, rs = r :: b := by
          cases rs with
          | nil => exact absurd rfl ne
          | cons r b => exact ⟨r, b, rfl⟩
        exact ⟨[], r, b, e, [], rfl⟩
    obtain ⟨pre, r, post, e, w, e2⟩ := this
    obtain ⟨m, w', h, t, e3, er, k⟩ := atlast pre r post e
    rw [e2] at e3
    have em : z = m := (List.cons.inj e3).1
    rw [em, k]
    exact (cy r (by rw [e]; simp)).fu h (by rw [er]; exact List.mem_cons_self ..)
  have lastempty : gA.getD (lst rl) 0 = -1 := by
    obtain ⟨u, e⟩ := lst_split (rne rl hrl)
    generalize lst rl = L at *
    refine endA (sp :: (p0.flatten ++ u)) L (by simp) ?_
    rw [ers, List.flatten_append, e]; simp
  generalize hq : rs.reverse.map lst ++ [sp] = q at *
  have ltq : ∀ z ∈ lst rl :: (p0.reverse.map lst ++ [sp]), z < gB.length := fun z hz => by rw [lB]; exact ltP z (qsub z (by rw [eq0]; exact hz))
  have qB : ∀ z ∈ q, gB.getD z 0 = gA.getD z 0 := fun z hz => outB z (PnB z (qsub z hz))
  have fullq : ∀ z ∈ p0.reverse.map lst ++ [sp], gB.getD z 0 ≠ -1 := fun z hz => by
    rw [qB z (by rw [eq0]; exact List.mem_cons_of_mem _ hz)]
    exact lastfull z hz
  obtain ⟨W0, eW, sepB⟩ := M.sep
  obtain ⟨WC, clC, wkC⟩ := path_climb (p0.reverse.map lst ++ [sp]) (lst rl) gB (VA ++ WB) M.rg (by rw [← eq0]; exact ndq) ltq (by rw [qB _ (by rw [eq0]; exact List.mem_cons_self ..)]; exact lastempty) fullq (fun v hv => by
    rw [eW, ← List.append_assoc] at hv
    rcases List.mem_append.mp hv with k | k
    · obtain ⟨z, z1, z2, z3⟩ := sepB v k
      exact .inl ⟨z, by rw [lB, ← lA]; exact z1, fun m => PnB z (qsub z (by rw [eq0]; exact m)) z2, z3⟩
    · rw [List.mem_singleton.mp k]
      exact .inr fun z hz => rg_full M.rg (ltq z (List.mem_cons_of_mem _ hz)) (fullq z hz))
  have wkCo : ∀ v ∈ WC, ∀ z, z < gB.length → z ∉ q → v.getD z 0 = (codes gB).getD z 0 := fun v hv z hz hn => wkC.out v hv z hz fun m => hn (by rw [eq0]; exact m)
  rw [← eq0] at clC
  have ltqq : ∀ z ∈ q, z < gB.length := fun z hz => ltq z (by rw [← eq0]; exact hz)
  have RC := shift_rg q gB M.rg ltqq
  have lC : (shift gB q).length = es.length := by rw [shift_len, lB]
  have outC : ∀ z, z ∉ q → (shift gB q).getD z 0 = gB.getD z 0 := fun z hz => shift_out _ gB ltqq z hz
  have atC : ∀ u b b' w, q = u ++ b :: b' :: w → (shift gB q).getD b 0 = gB.getD b' 0 := fun u b b' w e => by
    rw [e]; exact shift_at u gB b b' w (by rw [← e]; exact ndq) (by rw [← e]; exact ltqq)
  have spC : (shift gB q).getD sp 0 = -1 := by
    have e : q = (lst rl :: p0.reverse.map lst) ++ [sp] := eq0
    rw [e]
    exact shift_end _ gB sp (by simp) (by rw [← e]; exact ndq) (by rw [← e]; exact ltqq)
  generalize shift gB q = gC at *
  -- blocks of later chains
  have far : ∀ c ∈ cs, ∀ z ∈ c, z ∉ Bm ∧ z ∉ rs.flatten := fun c hc z hz => ⟨fun m => (djB z m).2 c (List.mem_append_left _ hc) hz, fun m => by
    obtain ⟨r, hr, hm⟩ := List.mem_flatten.mp m
    exact dj2.2.2 c hc r hr z hz hm⟩
  have keep : ∀ z, z ∉ Bm → z ∉ rs.flatten → z ≠ sp → gC.getD z 0 = es.getD z 0 := fun z h1 h2 h3 => by
    have hP : z ∉ sp :: rs.flatten := fun m => by
      rcases List.mem_cons.mp m with e | e
      · exact h3 e
      · exact h2 e
    rw [outC z fun m => hP (qsub z m), outB z h1, outA z hP]
  have tails : ∀ c ∈ cs, ∃ x r, c = x :: r ∧ es.getD x 0 = -1 ∧ r ≠ [] ∧ ∀ y ∈ r, es.getD y 0 ≠ -1 ∧ y ≠ sp := fun c hc => by
    obtain ⟨x, y, r, e, h1, h2⟩ := (ch c hc).sh
    exact ⟨x, y :: r, e, h1, by simp, fun z hz => ⟨h2 z hz, fun k => h2 z hz (by rw [k]; exact hsp)⟩⟩
  obtain ⟨V, clD⟩ := seq_climb cs gC (VA ++ WB ++ WC) RC (fun c hc => by
    obtain ⟨x, r, e, h1, _, h2⟩ := tails c hc
    refine ⟨(ch c hc).nd, fun z hz => by rw [lC]; exact (ch c hc).lt z hz, x, r, e, ?_, fun y hy => ?_⟩
    · by_cases k : x = sp
      · rw [k]; exact spC
      · have f := far c hc x (by rw [e]; exact List.mem_cons_self ..)
        rw [keep x f.1 f.2 k]; exact h1
    · have f := far c hc y (by rw [e]; exact List.mem_cons_of_mem _ hy)
      rw [keep y f.1 f.2 (h2 y hy).2]; exact (h2 y hy).1) djc (fun c hc v hv z hz => by
    obtain ⟨x, r, e, h1, _, h2⟩ := tails c hc
    rw [e] at hz
    have hz : z ∈ r := hz
    have hzc : z ∈ c := by rw [e]; exact List.mem_cons_of_mem _ hz
    have f := far c hc z hzc
    have lz := (ch c hc).lt z hzc
    have hP : z ∉ sp :: rs.flatten := fun m => by
      rcases List.mem_cons.mp m with k | k
      · exact (h2 z hz).2 k
      · exact f.2 k
    have ce : v.getD z 0 = (codes es).getD z 0 := by
      have cA : (codes gA).getD z 0 = (codes es).getD z 0 := by rw [codes_at (by rw [lA]; exact lz), codes_at lz, outA z hP]
      rcases List.mem_append.mp hv with k | k
      · rcases List.mem_append.mp k with k | k
        · exact VAo v k z lz hP
        · rw [M.vout v k z (by rw [lA]; exact lz) f.1, cA]
      · rw [wkCo v k z (by rw [lB]; exact lz) (fun m => hP (qsub z m)), codes_at (by rw [lB]; exact lz), codes_at lz, outB z f.1, outA z hP]
    rw [ce]
    exact rg_full Re lz (h2 z hz).1)
  refine ⟨V, ?_⟩
  have efs : seqI gC cs = fs := by
    refine ext_getD (by rw [seqI_len, lC, len]) fun b hb => ?_
    have hb : b < es.length := by rw [len]; exact hb
    by_cases k : ∃ c ∈ cs, b ∈ c
    · obtain ⟨c, hc, hbc⟩ := k
      have kc := ch c hc
      obtain ⟨h1, h2⟩ := seqI_at cs gC (fun c hc => ⟨(ch c hc).nd, fun z hz => by rw [lC]; exact (ch c hc).lt z hz⟩) djc c hc b hbc
      obtain ⟨x, r, ec, hx, hrn, hr⟩ := tails c hc
      obtain ⟨u, w, e⟩ := split_of hbc
      cases w with
      | nil =>
        rw [h2 u (fun z => by rw [ec, z] at e; exact hrn (List.cons.inj e).2) e, kc.en u b e]
      | cons b' w =>
        have hb' : b' ∈ r := by
          cases u with
          | nil => rw [ec] at e; rw [(List.cons.inj e).2]; exact List.mem_cons_self ..
          | cons u0 u => rw [ec] at e; rw [(List.cons.inj e).2]; simp
        have f := far c hc b' (by rw [ec]; exact List.mem_cons_of_mem _ hb')
        rw [h1 u b' w e, kc.nx u b b' w e, keep b' f.1 f.2 (hr b' hb').2]
    · rw [seqI_out cs gC (fun c hc z hz => by rw [lC]; exact (ch c hc).lt z hz) b fun c hc m => k ⟨c, hc, m⟩]
      by_cases hB : b ∈ Bm
      · have nq : b ∉ q := fun m => PnB b (qsub b m) hB
        rw [outC b nq, M.fin b hB]
      · by_cases hS : b = sp
        · rw [hS, spC, ← rest sp lsp (by rw [← hS]; exact hB) (fun c hc m => ?_), hsp]
          rcases List.mem_append.mp hc with q1 | q1
          · exact k ⟨c, q1, by rw [hS]; exact m⟩
          · exact (cy c q1).fu sp m hsp
        · by_cases hR : b ∈ rs.flatten
          · obtain ⟨r, hr, hm⟩ := List.mem_flatten.mp hR
            have kr := cy r hr
            obtain ⟨pre, post, er⟩ := split_ofL hr
            obtain ⟨u, w, e⟩ := split_of hm
            cases w with
            | nil =>
              have elst : lst r = b := by rw [e]; unfold lst; simp
              obtain ⟨m, w', h, t, e3, eh, k3⟩ := atlast pre r post er
              have eq : q = (post.reverse.map lst) ++ b :: m :: w' := by
                rw [← e3, ← hq, er, ← elst]; simp
              rw [atC _ b m w' eq, qB m (by rw [eq]; simp), k3, kr.en u b h t e eh]
            | cons b' w =>
              have nq : b ∉ q := fun mq => by
                rw [← hq] at mq
                rcases List.mem_append.mp mq with q1 | q1
                · obtain ⟨r2, hr2, e2⟩ := List.mem_map.mp q1
                  have hr2 := List.mem_reverse.mp hr2
                  have hm2 : b ∈ r2 := by rw [← e2]; exact lst_mem (rne r2 hr2)
                  have same : r2 = r := by
                    obtain ⟨a, c, e5⟩ := split_ofL hr2
                    rw [e5] at hr djr
                    have p := List.pairwise_append.mp djr
                    have p2 := List.pairwise_cons.mp p.2.1
                    rcases List.mem_append.mp hr with q5 | q5
                    · exact absurd hm2 (p.2.2 r q5 r2 (List.mem_cons_self ..) b hm)
                    · rcases List.mem_cons.mp q5 with q6 | q6
                      · exact q6.symm
                      · exact absurd hm (p2.1 r q6 b hm2)
                  rw [same] at e2
                  have nd := kr.nd
                  rw [e] at nd
                  have e7 : lst r = lst (b' :: w) := by rw [e]; exact lst_app u b b' w
                  have : b ∈ b' :: w := by
                    rw [← e2, e7]; exact lst_mem (by simp)
                  exact (List.nodup_cons.mp (List.nodup_append.mp nd).2.1).1 this
                · exact hS (List.mem_singleton.mp q1)
              have hbB := hB
              rw [outC b nq, outB b hbB, kr.nx u b b' w e]
              refine atA (sp :: (pre.flatten ++ u)) b b' (w ++ post.flatten) ?_
              rw [er, List.flatten_append, List.flatten_cons, e]; simp
          · rw [keep b hB hR hS]
            refine rest b hb hB fun c hc m => ?_
            rcases List.mem_append.mp hc with q1 | q1
            · exact k ⟨c, q1, m⟩
            · exact hR (List.mem_flatten.mpr ⟨c, q1, m⟩)
  rw [← efs]
  refine clA.app ?_
  exact M.cl.app (clC.app clD)
/-- the moves of a plan -/
def around_moves (turned : List (List Nat)) (sp : Nat) (ms : List (Nat × Nat)) : List (Nat × Nat) := along (sp :: turned.flatten) ++ ms ++ along (turned.reverse.map lst ++ [sp])
theorem plan_around {es fs : List Int} {c0 : List Nat} {cs rs : List (List Nat)} {sp : Nat} (S : Rows es fs (c0 :: cs) rs) (lsp : sp < es.length) (hsp : es.getD sp 0 = -1) (ns : sp ≠ c0.getD 0 0) (ne : rs ≠ []) :
    ∃ V, climb es [codes es] (around_moves rs sp (along c0) ++ cs.flatMap along) fs V := by
  have k0 := S.ch c0 (List.mem_cons_self ..)
  have dj0 : Disj (c0 :: (cs ++ rs)) := S.dj
  have dj := List.pairwise_cons.mp dj0
  obtain ⟨V, h⟩ := around (Bm := c0) (ms := along c0) S.rg S.len (fun c hc => S.ch c (List.mem_cons_of_mem _ hc)) S.cy ne dj.2 k0.lt (fun z hz => ⟨fun e => by
      obtain ⟨x, y, r, e2, h1, h2⟩ := k0.sh
      rw [e2] at hz ns
      rcases List.mem_cons.mp hz with q | q
      · exact ns (by rw [← e, q]; rfl)
      · exact h2 z q (by rw [e]; exact hsp), fun c hc m => dj.1 c hc z hz m⟩) lsp hsp (fun b hb h1 h2 => S.rest b hb fun c hc m => by
      rcases List.mem_cons.mp (show c ∈ c0 :: (cs ++ rs) from hc) with q | q
      · exact h1 (by rw [← q]; exact m)
      · exact h2 c q m) (fun gA VA R l same full => by
      obtain ⟨WB, M⟩ := mid_chain k0 R l same full S.rg
      exact ⟨_, WB, M⟩)
  refine ⟨V, ?_⟩
  unfold around_moves
  rw [List.append_assoc, List.append_assoc]
  exact h
theorem Disj.erase : ∀ {rs : List (List Nat)} {r0 : List Nat}, Disj rs → r0 ∈ rs → (∀ r ∈ rs, r ≠ []) → ∀ c ∈ rs.erase r0, ∀ z ∈ r0, z ∉ c
  | r :: rs, r0, d, m, ne, c, hc, z, hz => by
    have d2 := List.pairwise_cons.mp d
    rw [List.erase_cons] at hc
    by_cases e : r = r0
    · rw [if_pos (by rw [e]; exact beq_self_eq_true _)] at hc
      exact d2.1 c hc z (by rw [e]; exact hz)
    · rw [if_neg (by simpa using e)] at hc
      have m2 : r0 ∈ rs := (List.mem_cons.mp m).resolve_left fun q => e q.symm
      rcases List.mem_cons.mp hc with q | q
      · exact fun k => d2.1 r0 m2 z (by rw [← q]; exact k) hz
      · exact Disj.erase d2.2 m2 (fun r hr => ne r (List.mem_cons_of_mem _ hr)) c q z hz
theorem plan_rings {es fs : List Int} {rs : List (List Nat)} {r0 : List Nat} {e0 : Nat} (S : Rows es fs [] rs) (Rf : Rg fs) (m0 : r0 ∈ rs) (le0 : e0 < es.length) (he0 : es.getD e0 0 = -1) (rec : ∃ b ∈ r0, (codes es).getD b 0 ≠ (codes fs).getD b 0) :
    (rs.erase r0 = [] → ∃ V, climb es [codes es] (along (e0 :: r0 ++ [e0])) fs V) ∧ (∀ sp, sp < es.length → es.getD sp 0 = -1 → sp ≠ e0 → rs.erase r0 ≠ [] → ∃ V, climb es [codes es] (around_moves (rs.erase r0) sp (along (e0 :: r0 ++ [e0]))) fs V) := by
  have k0 := S.cy r0 m0
  have hf0 : fs.getD e0 0 = -1 := by
    rw [← S.rest e0 le0 fun c hc m => (S.cy c hc).fu e0 m he0]; exact he0
  have lt0 : ∀ z ∈ e0 :: r0, z < es.length := fun z hz => by
    rcases List.mem_cons.mp hz with q | q
    · rw [q]; exact le0
    · exact k0.lt z q
  have djr : Disj rs := S.dj
  have off := djr.erase m0 fun r hr => (S.cy r hr).ne
  have sub : ∀ r ∈ rs.erase r0, r ∈ rs := fun r hr => List.mem_of_mem_erase hr
  have rest : ∀ b, b < es.length → b ∉ e0 :: r0 → (∀ c ∈ rs.erase r0, b ∉ c) → es.getD b 0 = fs.getD b 0 := fun b hb h1 h2 => S.rest b hb fun c hc m => by
    by_cases q : c = r0
    · exact h1 (List.mem_cons_of_mem _ (by rw [← q]; exact m))
    · exact h2 c ((List.mem_erase_of_ne q).mpr hc) m
  have mid : ∀ gA VA, Rg gA → gA.length = es.length → (∀ z ∈ e0 :: r0, gA.getD z 0 = es.getD z 0) → (∀ v ∈ VA, ∀ z ∈ e0 :: r0, v.getD z 0 = (codes es).getD z 0) → ∃ gB WB, Mid fs gA VA (along (e0 :: r0 ++ [e0])) gB WB (e0 :: r0) := fun gA VA R l same full => mid_ring k0 R l S.rg S.len le0 he0 hf0 same full rec Rf
  refine ⟨fun z => ?_, fun sp lsp hsp ns ne => ?_⟩
  · obtain ⟨gB, WB, M⟩ := mid es [codes es] S.rg rfl (fun z _ => rfl) (fun v hv z _ => by rw [List.mem_singleton.mp hv])
    have e : gB = fs := by
      refine ext_getD (by rw [M.len, S.len]) fun b hb => ?_
      by_cases k : b ∈ e0 :: r0
      · exact M.fin b k
      · rw [M.out b k]
        exact rest b (by rw [S.len]; exact hb) k fun c hc => by rw [z] at hc; exact (List.not_mem_nil hc).elim
    have := M.cl
    rw [e] at this
    exact ⟨_, this⟩
  · obtain ⟨V, h⟩ := around (cs := []) (rs := rs.erase r0) (Bm := e0 :: r0) (sp := sp) S.rg S.len (fun c hc => (List.not_mem_nil hc).elim) (fun r hr => S.cy r (sub r hr)) ne (List.Pairwise.sublist List.erase_sublist djr) lt0 (fun z hz => ⟨fun e => by
        rcases List.mem_cons.mp hz with q | q
        · exact ns (by rw [← e, q])
        · exact k0.fu z q (by rw [e]; exact hsp), fun c hc m => by
        rcases List.mem_cons.mp hz with q | q
        · exact (S.cy c (sub c hc)).fu z m (by rw [q]; exact he0)
        · exact off c hc z q m⟩) lsp hsp rest mid
    refine ⟨V, ?_⟩
    unfold around_moves
    rw [List.append_assoc]
    have h2 := h
    rw [List.flatMap_nil, List.append_nil] at h2
    exact h2
end RV
/-! plans: the rows of a rename pair, their count -/
namespace RV
open RL RQ Rv
section
variable {es fs : List Int}
theorem getD_getN {l : List Nat} {i : Nat} (h : i < l.length) : l.getD i 0 = l[i] := by
  rw [List.getD_eq_getElem?_getD, List.getElem?_eq_getElem h]; rfl
theorem at_split {p u w : List Nat} {b : Nat} (e : p = u ++ b :: w) : p[u.length]? = some b := by
  rw [e, List.getElem?_append_right (Nat.le_refl _), Nat.sub_self]; rfl
theorem at_split2 {p u w : List Nat} {b b' : Nat} (e : p = u ++ b :: b' :: w) : p[u.length + 1]? = some b' := by
  rw [e, List.getElem?_append_right (Nat.le_succ _), show u.length.succ - u.length = 1 by omega]; rfl
theorem head_of {p v : List Nat} {b x : Nat} {g : Nat → Nat} {n : Nat} (P : Pth g n b p) (e : p = x :: v) : x = b := by
  have h := P.hd
  rw [e] at h
  exact Option.some.inj h
theorem lst_of {p u : List Nat} {b : Nat} (e : p = u ++ [b]) : p.getLastD 0 = b := by rw [e]; simp
theorem chn_of (R : Ren es fs) {b : Nat} (hb : b < es.length) (c : Ch es fs b) : Chn es fs (Fo es fs b) := by
  obtain ⟨P, _⟩ := fo_p R hb
  obtain ⟨he, hl⟩ := ch_end R hb c
  refine ⟨P.nd, P.lt, ?_, fun u x y w e => (way_ar R P (at_split e) (at_split2 e)).eq, fun u x e => by rw [← he, lst_of e]⟩
  obtain ⟨x, y, r, e⟩ : ∃ x y r, Fo es fs b = x :: y :: r := by
    generalize Fo es fs b = p at *
    match p, hl with
    | x :: y :: r, _ => exact ⟨x, y, r, rfl⟩
  refine ⟨x, y, r, e, by rw [head_of P e]; exact c.1, fun z hz => ?_⟩
  obtain ⟨u, w, e2⟩ := split_of hz
  have : ∃ u' a, Fo es fs b = u' ++ a :: z :: w := by
    rw [e, e2]
    rcases List.eq_nil_or_concat u with rfl | ⟨u1, a, rfl⟩
    · exact ⟨[], x, rfl⟩
    · exact ⟨x :: u1, a, by simp⟩
  obtain ⟨u', a, e3⟩ := this
  have A := way_ar R P (at_split e3) (at_split2 e3)
  rw [← A.eq]; exact A.fu
theorem cyc_of (R : Ren es fs) {b : Nat} (hb : b < es.length) (r : IsR (G es fs) (Fo es fs b)) : Cyc es fs (Fo es fs b) := by
  obtain ⟨P, _⟩ := fo_p R hb
  obtain ⟨h1, h2, A⟩ := rg_end R hb r
  refine ⟨P.nd, P.lt, P.ne, fun z hz => ?_, fun u x y w e => (way_ar R P (at_split e) (at_split2 e)).eq, fun u x h v e1 e2 => ?_⟩
  · obtain ⟨a, k⟩ := led_in R hb r hz
    rw [← k.eq]; exact k.fu
  · rw [head_of P e2, ← lst_of e1]; exact A.eq
def chns (es fs : List Int) : List (List Nat) := (starts es fs es.length).map (Fo es fs)
def rngs (es fs : List Int) : List (List Nat) := (tops es fs es.length).map (Fo es fs)
theorem rows_of (R : Ren es fs) (Re : Rg es) : Rows es fs (chns es fs) (rngs es fs) := by
  have hk : ∀ h ∈ heads es fs, h < es.length := fun h hh => (head_kind R hh).1
  refine ⟨R.len, Re, fun c hc => ?_, fun c hc => ?_, ?_, fun b hb h => ?_⟩
  · obtain ⟨b, hb, rfl⟩ := List.mem_map.mp hc
    obtain ⟨l, k⟩ := mem_starts.mp hb
    exact chn_of R l k
  · obtain ⟨b, hb, rfl⟩ := List.mem_map.mp hc
    obtain ⟨l, k⟩ := mem_tops.mp hb
    exact cyc_of R l k
  · unfold chns rngs Disj
    rw [← List.map_append, List.pairwise_map]
    refine List.Pairwise.imp_of_mem (R := (· ≠ ·)) (fun {b c} hb hc ne x hx hy => ?_) (heads_nd R)
    exact ne (same_head R hb hc hx hy)
  · by_cases q : es.getD b 0 = fs.getD b 0
    · exact q
    · obtain ⟨h0, hh, hm⟩ := covered R hb q
      refine absurd hm (h (Fo es fs h0) ?_)
      unfold chns rngs
      rw [← List.map_append]
      exact List.mem_map.mpr ⟨h0, hh, rfl⟩
/-- how many values move -/
theorem count_filter (R : Ren es fs) : (mvA es fs es.length).length = ((chns es fs).map fun c => c.length - 1).sum + ((rngs es fs).map List.length).sum := by
  have p1 : (mvA es fs es.length).length = ((changed es fs es.length).filter fun b => !decide (fs.getD b 0 = -1)).length := by
    unfold mvA changed
    rw [List.length_map, List.filter_filter]
    congr 1
    refine List.filter_congr fun b _ => ?_
    rw [Bool.and_comm]
    congr 2
    exact decide_eq_decide.mpr ⟨fun e => e.symm, fun e => e.symm⟩
  have p2 := ((rows_perm R).filter fun b => !decide (fs.getD b 0 = -1)).length_eq
  rw [p1, ← p2]
  have each : ∀ (hs : List Nat), (∀ h ∈ hs, h ∈ heads es fs) → ((hs.flatMap (Fo es fs)).filter fun b => !decide (fs.getD b 0 = -1)).length = (hs.map fun h => ((Fo es fs h).filter fun b => !decide (fs.getD b 0 = -1)).length).sum := by
    intro hs
    induction hs with
    | nil => intro _; rfl
    | cons h hs ih =>
      intro k
      rw [List.flatMap_cons, List.filter_append, List.length_append, ih fun x hx => k x (List.mem_cons_of_mem _ hx)]; rfl
  unfold allRows
  rw [each _ fun h hh => hh]
  unfold heads
  rw [List.map_append, List.sum_append]
  congr 1
  · unfold chns
    rw [List.map_map]
    congr 1
    refine List.map_congr_left fun h hh => ?_
    obtain ⟨l, c⟩ := mem_starts.mp hh
    have C := chn_of R l c
    obtain ⟨u, e⟩ := last_split (p := Fo es fs h) (by obtain ⟨x, y, r, e, _⟩ := C.sh; rw [e]; simp)
    have en := C.en u _ e
    obtain ⟨P, _⟩ := fo_p R l
    show _ = (Fo es fs h).length - 1
    generalize (Fo es fs h).getLastD 0 = L at *
    have all : ∀ x ∈ u, fs.getD x 0 ≠ -1 := fun x hx => by
      obtain ⟨a, w, ea⟩ := split_of hx
      have : ∃ y w', Fo es fs h = a ++ x :: y :: w' := by
        rw [e, ea]
        cases w with
        | nil => exact ⟨L, [], by simp⟩
        | cons y w => exact ⟨y, w ++ [L], by simp⟩
      obtain ⟨y, w', e3⟩ := this
      exact (way_ar R P (at_split e3) (at_split2 e3)).fu
    rw [e, List.filter_append, List.length_append, List.length_append, List.filter_eq_self.mpr (fun x hx => by have := all x hx; simpa using this)]
    simp only [List.filter_cons, en, decide_true, Bool.not_true, Bool.false_eq_true, if_false, List.filter_nil, List.length_nil, List.length_cons]
    omega
  · unfold rngs
    rw [List.map_map]
    congr 1
    refine List.map_congr_left fun h hh => ?_
    obtain ⟨l, r⟩ := mem_tops.mp hh
    obtain ⟨P, _⟩ := fo_p R l
    have E := rg_end R l r
    show _ = (Fo es fs h).length
    congr 1
    refine List.filter_eq_self.mpr fun x hx => ?_
    have : fs.getD x 0 ≠ -1 := by
      obtain ⟨u, w, e⟩ := split_of hx
      cases w with
      | nil => rw [← lst_of e]; exact E.2.1
      | cons y w => exact (way_ar R P (at_split e) (at_split2 e)).fu
    simpa using this
theorem flat_len : ∀ (cs : List (List Nat)), (cs.flatMap along).length = (cs.map fun c => c.length - 1).sum
  | [] => rfl
  | c :: cs => by rw [List.flatMap_cons, List.length_append, along_len, flat_len cs]; rfl
theorem around_len (rs : List (List Nat)) (sp : Nat) (ms : List (Nat × Nat)) : (around_moves rs sp ms).length = (rs.map List.length).sum + ms.length + rs.length := by
  unfold around_moves
  rw [List.length_append, List.length_append, along_len, along_len, List.length_cons, List.length_append, List.length_map, List.length_reverse, List.length_flatten]
  simp
theorem erase_sum : ∀ {rs : List (List Nat)} {r0 : List Nat}, r0 ∈ rs → ((rs.erase r0).map List.length).sum + r0.length = (rs.map List.length).sum ∧ (rs.erase r0).length + 1 = rs.length
  | r :: rs, r0, m => by
    rw [List.erase_cons]
    by_cases e : r = r0
    · rw [if_pos (by rw [e]; exact beq_self_eq_true _), e]
      simp; omega
    · rw [if_neg (by simpa using e)]
      have m2 : r0 ∈ rs := (List.mem_cons.mp m).resolve_left fun q => e q.symm
      have := erase_sum m2
      simp; omega
/-- all cases of a plan -/
structure Planned (es fs : List Int) (ms : List (Nat × Nat)) : Prop where
  climb : ∃ V, climb es [codes es] ms fs V
  len : ms.length = (mvA es fs es.length).length + (rngs es fs).length
theorem planned_chains (R : Ren es fs) (Re : Rg es) (h : rngs es fs = []) : Planned es fs ((chns es fs).flatMap along) := by
  have S := rows_of R Re
  have cf := count_filter R
  rw [h] at S cf
  exact ⟨plan_chains S, by rw [flat_len, cf, h]; rfl⟩
theorem planned_around (R : Ren es fs) (Re : Rg es) {c0 : List Nat} {cs : List (List Nat)} {sp : Nat} (hc : chns es fs = c0 :: cs) (ne : rngs es fs ≠ []) (lsp : sp < es.length) (hsp : es.getD sp 0 = -1) (ns : sp ≠ c0.getD 0 0) : Planned es fs (around_moves (rngs es fs) sp (along c0) ++ cs.flatMap along) := by
  have S := rows_of R Re
  have cf := count_filter R
  rw [hc] at S cf
  refine ⟨plan_around S lsp hsp ns ne, ?_⟩
  rw [List.length_append, around_len, along_len, flat_len, cf, List.map_cons, List.sum_cons]
  omega
theorem planned_ring (R : Ren es fs) (Re : Rg es) (Rf : Rg fs) {r0 : List Nat} {e0 : Nat} (hc : chns es fs = []) (m0 : r0 ∈ rngs es fs) (one : (rngs es fs).erase r0 = []) (le0 : e0 < es.length) (he0 : es.getD e0 0 = -1) (rec : ∃ b ∈ r0, (codes es).getD b 0 ≠ (codes fs).getD b 0) : Planned es fs (along (e0 :: r0 ++ [e0])) := by
  have S := rows_of R Re
  have cf := count_filter R
  rw [hc] at S cf
  refine ⟨(plan_rings S Rf m0 le0 he0 rec).1 one, ?_⟩
  have := erase_sum m0
  rw [one] at this
  rw [along_len, cf]
  simp at this ⊢
  omega
theorem planned_rings (R : Ren es fs) (Re : Rg es) (Rf : Rg fs) {r0 : List Nat} {e0 sp : Nat} (hc : chns es fs = []) (m0 : r0 ∈ rngs es fs) (more : (rngs es fs).erase r0 ≠ []) (le0 : e0 < es.length) (he0 : es.getD e0 0 = -1) (rec : ∃ b ∈ r0, (codes es).getD b 0 ≠ (codes fs).getD b 0) (lsp : sp < es.length) (hsp : es.getD sp 0 = -1) (ns : sp ≠ e0) : Planned es fs (around_moves ((rngs es fs).erase r0) sp (along (e0 :: r0 ++ [e0]))) := by
  have S := rows_of R Re
  have cf := count_filter R
  rw [hc] at S cf
  refine ⟨(plan_rings S Rf m0 le0 he0 rec).2 sp lsp hsp ns more, ?_⟩
  have := erase_sum m0
  rw [around_len, along_len, cf]
  simp at this ⊢
  omega
/-- without chains a look that changes changes in a ring -/
theorem recolored (R : Ren es fs) (Re : Rg es) (hc : chns es fs = []) (ne : codes es ≠ codes fs) : ∃ r ∈ rngs es fs, ∃ b ∈ r, (codes es).getD b 0 ≠ (codes fs).getD b 0 := by
  by_cases k : ∃ r ∈ rngs es fs, ∃ b ∈ r, (codes es).getD b 0 ≠ (codes fs).getD b 0
  · exact k
  · exfalso
    have S := rows_of R Re
    refine ne (List.ext_getElem (by unfold codes; rw [List.length_map, List.length_map, R.len]) fun i h1 h2 => ?_)
    have l1 : i < es.length := by unfold codes at h1; rwa [List.length_map] at h1
    have l2 : i < fs.length := by rw [← R.len]; exact l1
    have e : (codes es).getD i 0 = (codes fs).getD i 0 := by
      by_cases q : ∃ r ∈ rngs es fs, i ∈ r
      · obtain ⟨r, hr, hi⟩ := q
        by_cases z : (codes es).getD i 0 = (codes fs).getD i 0
        · exact z
        · exact absurd ⟨r, hr, i, hi, z⟩ k
      · rw [codes_at l1, codes_at l2, S.rest i l1 fun c hcm m => by
          rw [hc] at hcm
          exact q ⟨c, hcm, m⟩]
    rw [getD_getN h1, getD_getN h2] at e
    exact e
end
end RV
/-! set comprehensions whose elements are texts or numbers -/
namespace Rv
open PySem PySem.Spec PyProof.Rows L2 PpSet
section
variable {X : Cx}
/-- one turn's end: the element goes into the set at d -/
def PutK (P : Program) (w : World) (d : Addr) (Nx : Hp → Prop) : VK := fun y G => ∃ (k : Key) (S : Key → Bool) (c : Nat), y = kV k ∧ G d = some (SetK P w d S c) ∧ c + 1 < scanBound ∧
  Nx (upd G d (SetK P w d (fun j => S j || decide (j = k)) (if S k = true then c else c + 1)))
def Sk (P : Program) (w : World) (J : It) (g : L2.TG) (tt : TT) (te : TE) (vs : List Nat) (σ : L2.St) (G0 : Hp) (Q : VK) : Prop :=
  ∀ d, G0 d = none → ∃ W : Nat → Nat → Hp → Prop, (∃ m, W 0 m (upd G0 d (SetK P w d (fun _ => false) 0))) ∧ ∀ i m G, W i m G →
    (J.stop i G ∧ Q (.ref d) G) ∨ (J.go i G ∧ ∃ Nx : Hp → Prop, (∀ G', Nx G' → ∃ m', m' < m ∧ W (i + 1) m' G') ∧
      ∀ x G', J.yld i G x G' → g x (wipe σ vs) G' fun σ2 G2 => wipe σ2 vs = wipe σ vs ∧ tt σ2 G2 fun b G3 => if b = true then te σ2 G3 (PutK P w d Nx) else Nx G3)
def tSk (P : Program) (w : World) (wi : TI) (g : L2.TG) (tt : TT) (te : TE) (vs : List Nat) : TE := fun σ H Q => wi σ H fun J G => Sk P w J g tt te vs σ G Q
abbrev bareK (w : World) : Obj := { cls := .type "set", dict := none, data := .set #[] 0 (.fresh 0 0 (!w.params.followText "set-order")) }
theorem put_key {pins : List (Addr × Obj)} {σ : L2.St} {G : Hp} {s : Shared} {E : Value → Shared → Prop} {d : Addr} {Nx : Hp → Prop} {y : V} {u : Value} {Q : Value → Shared → Prop} (I : Inv X pins σ G s) (ry : RelV y u) (h : PutK X.prog X.w d Nx y G)
    (q : ∀ s' G', Inv X pins σ G' s' → Nx G' → Q .none s') : wpAny (model X.prog X.w) X.A (call (.builtin "set.add") [.ref d, u]) Q E s := by
  obtain ⟨k, S, c, rfl, hd, room, nx⟩ := h
  refine call_set_add (kV_is ry) (key_scan ry) (setK_get I hd) room fun h' sb new => ?_
  have he : ∃ u, h'.get? d = some u := by
    have ⟨o, _, _, _, ho, _⟩ := new
    exact ⟨o, ho⟩
  exact q _ _ (I.write (e := d) (t' := s.toks + 1) (by rw [hd]; trivial) (.inl rfl) (fun b u hb hu => (sb.2 b hb).trans hu) he (setK_new new)) nx
variable {elt tg iter : Expr} {ifs : List Expr} {scope : Scope} {own : List (PySem.Str × Nat)} {pos : Pos} {wi : TI} {g : L2.TG} {tt : TT} {te : TE} {w : World}
theorem pe_sk {P : Program} (hp : X.prog = P) (hw : X.w = w) (calm : X.calm = true) (nd : X.N.Nodup) (hi : PI X tg iter wi) (ok : BlkOk X.N X.env.scope scope own)
    (hg : ∀ (s : Shared) (H : Hp) (C : Addr) (cl : List (PySem.Str × Addr)) (fp : List Addr), PG (X.blk s H scope (compEnvC scope cl C X.env) fp) tg g)
    (ht : ∀ (s : Shared) (H : Hp) (C : Addr) (cl : List (PySem.Str × Addr)) (fp : List Addr), PTs (X.blk s H scope (compEnvC scope cl C X.env) fp) ifs tt)
    (he : ∀ (s : Shared) (H : Hp) (C : Addr) (cl : List (PySem.Str × Addr)) (fp : List Addr), PE (X.blk s H scope (compEnvC scope cl C X.env) fp) elt te)
    (fold : ∀ x, foldedSetIterable iter X.env x = pure x := by intro _; rfl) :
    PE X (.SetComp elt [⟨tg, iter, ifs, 0⟩] scope pos) (tSk P w wi g tt te (own.map (·.2))) := by
  subst hp
  subst hw
  refine ⟨fun pins s0 σ H Q I0 want => ?_⟩
  rw [eval_SetComp]
  have caught : ∀ y ∈ scope.names, y.2 = .free → ∃ c, X.env.cells.lookup y.1 = some c := fun y hy e => (ok.free y hy e).elim (fun z => I0.ok.has _ (.inl z)) fun z => I0.ok.has _ (.inr z)
  refine wpAny_comprehension_free rfl fold (closure_ok caught) ok.kind (fun y hy e => by rw [ok.uniq y hy, e]) (thn (hi.run pins s0 σ H _ I0 want) fun _ s1 found => thn found fun _ s2 got => ?_)
  obtain ⟨it, fp, tn, J, G0, rfl, I2, T, here, seat, want2⟩ := got
  refine newSet_ok (newEnv_comp ?_)
  obtain ⟨d, ed⟩ : ∃ d, d = s2.heap.objs.size := ⟨_, rfl⟩
  have free_d : G0 d = none := I2.hok.fresh (Nat.le_of_eq ed.symm)
  obtain ⟨W, ⟨m0, w0⟩, turn⟩ := want2 d free_d
  obtain ⟨G1, eG1⟩ : ∃ G1, G1 = upd G0 d (SetK X.prog X.w d (fun _ => false) 0) := ⟨_, rfl⟩
  rw [← eG1] at w0
  obtain ⟨s3, es3⟩ : ∃ s3 : Shared, s3 = { s2 with heap := s2.heap.push (bareK X.w) } := ⟨_, rfl⟩
  have hp3 : s3.heap = s2.heap.push (bareK X.w) := by rw [es3]
  have kept3 : ∀ b o, s2.heap.get? b = some o → s3.heap.get? b = some o := fun b o e => by rw [hp3]; exact Heap.get?_push_of_some _ e
  have I3 : Inv X pins σ G1 s3 := by
    rw [es3, eG1]
    refine I2.laid (t' := s2.toks) (fun b o e => Heap.get?_push_of_some _ e) (Nat.le_of_eq ed.symm) ?_
    rw [ed]
    exact setK_new ⟨_, #[], 0, _, Heap.get?_push_size _ rfl, ⟨rfl, rfl, rfl⟩, rfl, (fun e he => by simp at he), (fun k => by simp), (by decide), (by rfl), rfl⟩
  have low : ∀ b ∈ fp, b < s2.heap.objs.size := fun b hb => (T.obj _ _ here b hb).elim fun o k => Heap.lt_size k.1
  have seat3 : ∀ b ∈ fp, FpOk X pins G1 b ∧ b < s3.heap.objs.size := fun b hb => by
    refine ⟨⟨?_, (seat b hb).2⟩, ?_⟩
    · rw [eG1, upd_ne (by rw [ed]; exact Nat.ne_of_lt (low b hb))]
      exact (seat b hb).1
    · rw [hp3, Heap.size_push]
      exact Nat.lt_succ_of_lt (low b hb)
  have here3 : tn 0 s3.heap := T.keep _ _ _ here fun b _ o e => kept3 b o e
  have I4 := block_start I3 ok nd seat3
  obtain ⟨cs, ecs⟩ : ∃ cs, cs = cellsFrom (s3.heap.objs.size + 1) scope.names (cloFrom X.env.cells scope.names []) := ⟨_, rfl⟩
  have pg := hg s3 G1 s3.heap.objs.size cs fp
  have pt := ht s3 G1 s3.heap.objs.size cs fp
  have pe := he s3 G1 s3.heap.objs.size cs fp
  rw [← ecs] at I4
  obtain ⟨ce, ece⟩ : ∃ ce, ce = compEnvC scope cs s3.heap.objs.size X.env := ⟨_, rfl⟩
  have locs : ce.locals = s3.heap.objs.size := by rw [ece]; rfl
  rw [← ece] at I4 pg pt pe
  obtain ⟨s4, es4⟩ : ∃ s4 : Shared, s4 = { s3 with heap := pushCells (s3.heap.push { cls := .type "dict", data := .dict #[] }) scope.names } := ⟨_, rfl⟩
  rw [← es4] at I4
  have here4 : tn 0 s4.heap := T.keep _ _ _ here3 fun b _ o e => by rw [es4]; exact pushCells_keeps _ _ _ _ (Heap.get?_push_of_some _ e)
  have none3 : ∀ b ∈ fp, G1 b = none := fun b hb => (seat3 b hb).1.1
  generalize hR : (compPost (model X.prog X.w) X.A X.xe none (EP X pins σ Q) (.ref d) s3.heap.objs.size : Result → Shared → Prop) = R
  suffices loop : codeAny (model X.prog X.w) X.A (.compLoop (.SetComp elt [⟨tg, iter, ifs, 0⟩] scope pos) 0 (.ref it) (.ref d) ce) R s4 by
    have start := codeAny_compStart_set loop (T.self X.A 0 _ _ _ here4 loop)
    rw [← hR, es4, ece, ecs, es3, ed] at start
    exact start
  have pinned : ∀ {σ' : L2.St} {G' : Hp} {s' : Shared}, Inv (X.blk s3 G1 scope ce fp) [] σ' G' s' → (∀ b ∈ fp, G' b = none) → ∀ b ∈ fp, FpOk (X.blk s3 G1 scope ce fp) [] G' b := fun I' hn b hb =>
    ⟨hn b hb, (I'.ok.exf b hb).1, I'.ok.exfs b hb, .inl hb, fun x c e => (I'.ok.exf b hb).2 x c e, fun p hp => absurd (show p ∈ ([] : List (Addr × Obj)) ++ [] from hp) (by simp)⟩
  subst hR
  refine compLoopS_any (fun n t => ∃ i G, Inv (X.blk s3 G1 scope ce fp) [] (wipe σ (own.map (·.2))) G t ∧ tn i t.heap ∧ (∀ b ∈ fp, G b = none) ∧ W i n G) ?_ m0 ⟨0, G1, I4, here4, none3, w0⟩
  rintro n s5 ⟨i, G5, I5, here5, none5, w5⟩
  rcases turn i n G5 w5 with ⟨stop, over⟩ | ⟨go, Nx, next, step⟩
  · refine thnF (T.done (X.blk s3 G1 scope ce fp) rfl rfl rfl calm i [] s5 _ G5 (fun _ _ => False) I5 (pinned I5 none5) here5 stop) fun r s6 fin => ?_
    obtain ⟨rfl, I6⟩ := fin
    have J6 : Inv X pins σ G5 s6 := I3.call' (ch := fp) I6.os I6.base I6.hok I6.bare fun b hb => by
      obtain ⟨⟨_, a1, a2, a3, a4, a5⟩, _⟩ := seat3 b hb
      exact ⟨a3, a1, a4, a5⟩
    obtain ⟨mm, named, _⟩ := I6.loc
    have named : s6.heap.Ns ce.locals mm := named
    have gone : G5 ce.locals = none := I6.free
    rw [locs] at named gone
    obtain ⟨b0, b1, b2, b3, b4, b5⟩ := I3.fpOk (Nat.le_refl _) gone
    refine ⟨mm, named, fun hh sb => ?_⟩
    exact ⟨.ref d, G5, J6.turned (t' := s6.toks) (fun b o hb e => (sb.2 b hb).trans e) b0 b1 b3 b4 b5, rfl, over⟩
  · refine thnF (T.item (X.blk s3 G1 scope ce fp) rfl rfl rfl calm i [] s5 _ G5 (fun _ _ => False) I5 (pinned I5 none5) here5 go) fun r s6 item => ?_
    obtain ⟨u, rfl, item⟩ := item
    refine thnF item fun _ s7 ⟨x, G7, I7, rx, yx, here7, none7⟩ => ?_
    have P7 := I7.pinned (pinned I7 none7) (T.obj _ _ here7)
    refine thnF (pg.run _ s7 _ G7 x u _ P7 rx (step x G7 yx)) fun _ s8 ⟨σ8, G8, I8, same8, want8⟩ => ?_
    refine thnF (pt.run _ s8 σ8 G8 _ I8 want8) fun b s9 ⟨G9, I9, want9⟩ => ?_
    have close : ∀ (t : Shared) (G' : Hp), Inv (X.blk s3 G1 scope ce fp) ([] ++ pinsAt fp s7.heap) σ8 G' t → Nx G' → ∃ m, m < n ∧ ∃ i G, Inv (X.blk s3 G1 scope ce fp) [] (wipe σ (own.map (·.2))) G t ∧ tn i t.heap ∧ (∀ b ∈ fp, G b = none) ∧ W i m G := fun t G' I' nx => by
      obtain ⟨m', less, wn⟩ := next G' nx
      have still : ∀ b ∈ fp, ∀ o, s7.heap.get? b = some o → t.heap.get? b = some o ∧ G' b = none := fun b hb o e => by
        have k := I'.pin (b, o) (List.mem_append_right _ (List.mem_append_right _ (mem_pinsAt hb e)))
        exact ⟨k.1, k.2.1⟩
      have len : (wipe σ (own.map (·.2))).length = σ8.length := (congrArg List.length same8).symm.trans (wipe_length ..)
      refine ⟨m', less, i + 1, G', (I'.unpinned (pins := [])).weak len fun j v e => ?_, T.keep _ _ _ here7 fun b hb o e => (still b hb o e).1, fun b hb => ?_, wn⟩
      · rw [← same8] at e
        exact (wipe_some e).1
      · exact (T.obj _ _ here7 b hb).elim fun o k => (still b hb o k.1).2
    cases b with
    | false => exact close s9 G9 I9 want9
    | true => exact thnF (pe.run _ s9 σ8 G9 _ I9 want9) fun u s10 ⟨y, G10, I10, ry, add⟩ => put_key (X := X.blk s3 G1 scope ce fp) I10 ry add fun s11 G11 I11 nx => close s11 G11 I11 nx
end
theorem rd_sk {P : Program} {w : World} {wi : TI} {g : L2.TG} {tt : TT} {te : TE} {vs : List Nat} {σ : L2.St} {H : Hp} {Q : VK} (q : wi σ H fun J G => Sk P w J g tt te vs σ G Q) : tSk P w wi g tt te vs σ H Q := q
/-- how many different ones among what was put in -/
inductive Dn : List Nat → Nat → Prop
  | nil : Dn [] 0
  | old {ks : List Nat} {c k : Nat} : Dn ks c → k ∈ ks → Dn (ks ++ [k]) c
  | new {ks : List Nat} {c k : Nat} : Dn ks c → k ∉ ks → Dn (ks ++ [k]) (c + 1)
theorem Dn.le {ks : List Nat} {c : Nat} (h : Dn ks c) : c ≤ ks.length := by
  induction h with
  | nil => exact Nat.le_refl _
  | old _ _ ih => rw [List.length_append]; omega
  | new _ _ ih => rw [List.length_append]; exact Nat.succ_le_succ ih
theorem Dn.pos {ks : List Nat} {c : Nat} (h : Dn ks c) : ks ≠ [] → 1 ≤ c := by
  induction h with
  | nil => intro k; exact absurd rfl k
  | old h m ih => intro _; exact ih fun e => by rw [e] at m; exact (List.not_mem_nil m).elim
  | new _ _ ih => intro _; exact Nat.succ_le_succ (Nat.zero_le _)
theorem Dn.few {ks : List Nat} {c : Nat} (h : Dn ks c) : c < 2 ↔ ∀ x ∈ ks, ∀ y ∈ ks, x = y := by
  induction h with
  | nil => exact ⟨fun _ x hx => (List.not_mem_nil hx).elim, fun _ => by decide⟩
  | @old ks c k h m ih =>
    rw [ih]
    refine ⟨fun a x hx y hy => ?_, fun a x hx y hy => a x (List.mem_append_left _ hx) y (List.mem_append_left _ hy)⟩
    have g : ∀ z ∈ ks ++ [k], z ∈ ks := fun z hz => (List.mem_append.mp hz).elim id fun e => by rw [List.mem_singleton.mp e]; exact m
    exact a x (g x hx) y (g y hy)
  | @new ks c k h n ih =>
    refine ⟨fun lt => ?_, fun a => ?_⟩
    · by_cases e : ks = []
      · rw [e]
        intro x hx y hy
        rw [List.nil_append] at hx hy
        rw [List.mem_singleton.mp hx, List.mem_singleton.mp hy]
      · have := h.pos e
        omega
    · by_cases e : ks = []
      · rw [e] at h
        have := h.le
        rw [List.length_nil] at this
        omega
      · obtain ⟨x, hx⟩ := List.exists_mem_of_ne_nil ks e
        have := a x (List.mem_append_left _ hx) k (by simp)
        exact absurd (by rw [← this]; exact hx) n
def keyC (k : Nat) : Key := .inr (one k)
def inK (ks : List Nat) : Key → Bool := fun j => ks.any fun k => decide (j = keyC k)
theorem keyC_inj {a b : Nat} (h : keyC a = keyC b) : a = b := sgn_inj (Sum.inr.inj h)
/-- one-character texts; Pv tells what was put in so far, in order, perhaps twice -/
theorem sk_it {P : Program} {w : World} {J : It} {n : Nat} {G : Hp → Prop} {Y : Nat → Hp → V → Hp → Prop} (wk : Walk J n G Y) {g : L2.TG} {tt : TT} {te : TE} {vs : List Nat} {σ : L2.St} {H0 : Hp} {Q : VK} (Pv : Nat → List Nat → Prop) (p0 : Pv 0 []) (sm : ∀ i ks, i ≤ n → Pv i ks → ks.length < 1000) (hG : ∀ H, Same H0 H → G H)
    (hs : ∀ i x H H' ks (Qc : VK) (R : Hp → Prop), i < n → Same H0 H → Pv i ks → Y i H x H' → (∀ k H5, Same H H5 → Pv (i + 1) (ks ++ [k]) → Qc (.str (one k)) H5) → (∀ H3, Same H H3 → Pv (i + 1) ks → R H3) →
      g x (wipe σ vs) H' fun σ2 H2 => wipe σ2 vs = wipe σ vs ∧ tt σ2 H2 fun b H3 => if b = true then te σ2 H3 Qc else R H3)
    (hd : ∀ H d ks c, Same H0 H → H0 d = none → Dn ks c → (∃ S, H d = some (SetK P w d S c)) → Pv n ks → Q (.ref d) H) : Sk P w J g tt te vs σ H0 Q := fun d nd => by
  refine ⟨fun i m H => m = n - i ∧ i ≤ n ∧ Same H0 H ∧ ∃ ks c, Dn ks c ∧ H d = some (SetK P w d (inK ks) c) ∧ Pv i ks, ⟨n, rfl, Nat.zero_le _, same_new (Same.refl _) nd, [], 0, .nil, ?_, p0⟩, ?_⟩
  · rw [upd_same]
    rfl
  rintro i m H ⟨rfl, hi, S, ks, c, hc, hD, p⟩
  have gG := hG H S
  by_cases hlt : i < n
  · refine .inr ⟨wk.goes i H hlt gG, fun H' => i < n ∧ Same H0 H' ∧ ∃ ks c, Dn ks c ∧ H' d = some (SetK P w d (inK ks) c) ∧ Pv (i + 1) ks, fun H' p' => ⟨n - (i + 1), by omega, rfl, hlt, p'.2⟩, fun x H' y => ?_⟩
    refine hs i x H H' ks _ _ hlt S p (wk.yields i H x H' hlt gG y) (fun k H5 S5 pz => ?_) (fun H3 S3 pz => ⟨hlt, S.trans S3, ks, c, hc, S3 _ _ hD, pz⟩)
    have l := sm i ks hi p
    have l2 := hc.le
    have mk : inK ks (keyC k) = true ↔ k ∈ ks := by
      unfold inK
      rw [List.any_eq_true]
      exact ⟨fun ⟨a, ha, e⟩ => by rw [keyC_inj (of_decide_eq_true e)]; exact ha, fun h => ⟨k, h, decide_eq_true rfl⟩⟩
    have room : c + 1 < scanBound := by unfold scanBound; omega
    refine ⟨keyC k, _, c, rfl, S5 _ _ hD, room, hlt, same_mut (S.trans S5) nd, ks ++ [k], (if inK ks (keyC k) = true then c else c + 1), ?_, ?_, pz⟩
    · by_cases z : k ∈ ks
      · rw [if_pos (mk.mpr z)]; exact hc.old z
      · rw [if_neg (fun q => z (mk.mp q))]; exact hc.new z
    · rw [upd_same]
      congr 2
      funext j
      unfold inK
      rw [List.any_append, List.any_cons, List.any_nil, Bool.or_false]
  · have e : i = n := by omega
    subst e
    exact .inl ⟨wk.stops H gG, hd H d ks c S nd hc ⟨_, hD⟩ p⟩
/-- len(s), s a set of texts -/
def rLenSK (P : Program) (w : World) : List V → Hp → VK → Prop := fun xs H Q => ∃ (a : Addr) (S : Key → Bool) (n : Nat), xs = [.ref a] ∧ H a = some (SetK P w a S n) ∧ Q (.int n) H
theorem call_lenSK {X : Cx} : CallR X (.builtin "len") (rLenSK X.prog X.w) := by
  intro pins s σ H xs us Q I r h
  obtain ⟨a, S, n, rfl, ha, q⟩ := h
  rw [Vals.ref1 r]
  obtain ⟨o, es, ep, t, ho, hex, hd, _, _, lt, hf, hn⟩ := setK_get I ha
  refine call_len_set ho hex hd hf (by unfold scanBound at lt; omega) ⟨.int n, H, I.tok _, ⟨_, by rw [hn]⟩, q⟩
theorem rd_lenSK {P : Program} {w : World} {H : Hp} {Q : VK} {a : Addr} {n : Nat} (h : ∃ S, H a = some (SetK P w a S n)) (q : Q (.int n) H) : rLenSK P w [.ref a] H Q := by
  obtain ⟨S, h⟩ := h
  exact ⟨a, S, n, rfl, h, q⟩
end Rv
/-! plans in the heap: what an obstacle is -/
namespace Rv
open PySem PySem.Spec PyProof.Rows L2 RL RQ RV
section
variable {H : Hp} {K : PySem.W.Frag} {Q : VK} {p p2 : Addr} {a b : List Int}
theorem rd_eqI (h : TG H p a) (h2 : TG H p2 b) (q : Q (.bl (decide (a = b))) H) : rEqD K (.ref p) (.ref p2) H Q := ⟨_, _, h.dp, h2.dp, shT _, shT _, by rw [eqv_intsT]; exact q⟩
theorem rd_neI (h : TG H p a) (h2 : TG H p2 b) (q : Q (.bl (!decide (a = b))) H) : rNeD K (.ref p) (.ref p2) H Q := ⟨_, _, h.dp, h2.dp, shT _, shT _, by rw [eqv_intsT]; exact q⟩
end
def crowd (es fs : List Int) : Prop := es.count (-1) = 1 ∧ rngs es fs ≠ []
instance {es fs : List Int} : Decidable (crowd es fs) := by unfold crowd; exact inferInstance
def mono (es : List Int) : Prop := ∀ x ∈ es, ∀ y ∈ es, x ≠ -1 → y ≠ -1 → sg x = sg y
instance {es : List Int} : Decidable (mono es) := by unfold mono; exact inferInstance
def vdt (es fs : List Int) : Nat := if es = fs then 0 else if -1 ∉ es then 1 else if codes es = codes fs then 2 else if ¬ crowd es fs then 0 else if mono es then 3 else 4
def RsnAt (H : Hp) (p : Addr) (k : Nat) (es fs : List Int) : Prop :=
  (k = 1 ∧ H p = some (.tup [.str (Str.ofString "full")])) ∨ (k = 2 ∧ H p = some (.tup [.str (Str.ofString "alike")])) ∨ (k = 3 ∧ ∃ t bs, H p = some (.tup [.str (Str.ofString "rings"), .ref t]) ∧ H t = some (.tup (bs.map V.ref)) ∧ NRows H bs (rngs es fs))
/-- what obstacle does -/
structure ObQ (K : PySem.W.Frag) (H : Hp) (Q : VK) (E : XK) (es fs : List Int) : Prop where
  q0 : vdt es fs = 0 → ∀ H', Same H H' → Q .non H'
  q1 : ∀ k, vdt es fs = k → k ≠ 0 → k ≠ 4 → ∀ H' p, Same H H' → RsnAt H' p k es fs → Q (.ref p) H'
  q4 : vdt es fs = 4 → ∀ H' d t bs, Same H H' → H' d = some (.xd [("rings", .ref t)]) → H' t = some (.tup (bs.map V.ref)) → NRows H' bs (rngs es fs) → E (.ref (atTop K "Undecided")) (some d) H'
theorem walk_its {cs : List Nat} : Walk (Its (txt cs)) cs.length (fun _ => True) (fun i H v H' => H' = H ∧ ∃ h : i < cs.length, v = .str (one cs[i])) :=
  ⟨fun i _ hi _ => by show i < (txt cs).cps.size; simpa [txt] using hi, fun _ _ => by show (txt cs).cps.size ≤ cs.length; simp [txt], fun i H x H' hi _ q => by
    obtain ⟨e, c, hc, rfl⟩ := q
    refine ⟨e, hi, ?_⟩
    have : (txt cs).cps[i]? = some cs[i] := by simp [txt, hi]
    rw [this] at hc
    cases hc
    rfl⟩
theorem rd_tcC {σ : L2.St} {H : Hp} {Q : VK} {i : Nat} {p : Addr} {gs : List Int} {k : Int} (hv : σ[i]? = some (some (.ref p))) (g : GT H p gs) (q : Q (.int (gs.count k : Nat)) H) : tTc (tVar i) (tC (.int k)) σ H Q := ⟨_, hv, p, gs, rfl, g, k, rfl, g, q⟩
/-- the signs that are no dots -/
def sgns (cs : List Nat) (i : Nat) : List Nat := (cs.take i).filter fun c => !decide (c = 46)
theorem sgns_next {cs : List Nat} {i : Nat} (h : i < cs.length) : sgns cs (i + 1) = sgns cs i ++ if cs[i] = 46 then [] else [cs[i]] := by
  unfold sgns
  rw [take_next h, List.filter_append]
  congr 1
  by_cases z : cs[i] = 46
  · rw [if_pos z, List.filter_cons_of_neg (by rw [decide_eq_true z]; decide)]; rfl
  · rw [if_neg z, List.filter_cons_of_pos (by rw [decide_eq_false z]; decide)]; rfl
theorem sgns_len (cs : List Nat) (i : Nat) : (sgns cs i).length ≤ cs.length := by
  unfold sgns
  have h1 := List.length_filter_le (fun c => !decide (c = 46)) (cs.take i)
  have h2 := List.length_take_le i cs
  have h3 : (cs.take i).length ≤ cs.length := by rw [List.length_take]; exact Nat.min_le_right ..
  omega
theorem mono_dn {es : List Int} (R : Rg es) {c : Nat} (h : Dn (sgns (codes es) (codes es).length) c) : decide (((c : Nat) : Int) < 2) = decide (mono es) := by
  rw [decide_eq_decide]
  have : ((c : Nat) : Int) < 2 ↔ c < 2 := by omega
  rw [this, h.few]
  unfold sgns
  rw [List.take_length]
  have mem : ∀ x, x ∈ (codes es).filter (fun c => !decide (c = 46)) ↔ ∃ e ∈ es, e ≠ -1 ∧ sg e = x := fun x => by
    rw [List.mem_filter]
    unfold codes
    rw [List.mem_map]
    refine ⟨fun ⟨⟨e, he, h1⟩, h2⟩ => ⟨e, he, fun z => ?_, h1⟩, fun ⟨e, he, n, h1⟩ => ⟨⟨e, he, h1⟩, ?_⟩⟩
    · rw [← h1, (sg_46 (R e he)).mpr z] at h2
      exact absurd h2 (by decide)
    · rw [Bool.not_eq_true', decide_eq_false_iff_not, ← h1]
      exact fun k => n ((sg_46 (R e he)).mp k)
  refine ⟨fun a x hx y hy nx ny => a _ ((mem _).mpr ⟨x, hx, nx, rfl⟩) _ ((mem _).mpr ⟨y, hy, ny, rfl⟩), fun a x hx y hy => ?_⟩
  obtain ⟨e1, h1, n1, rfl⟩ := (mem x).mp hx
  obtain ⟨e2, h2, n2, rfl⟩ := (mem y).mp hy
  exact a e1 h1 e2 h2 n1 n2
theorem RsnAt.same {H H' : Hp} {p : Addr} {k : Nat} {es fs : List Int} (h : RsnAt H p k es fs) (S : Same H H') : RsnAt H' p k es fs := by
  rcases h with ⟨e, h⟩ | ⟨e, h⟩ | ⟨e, t, bs, h1, h2, h3⟩
  · exact .inl ⟨e, S _ _ h⟩
  · exact .inr (.inl ⟨e, S _ _ h⟩)
  · exact .inr (.inr ⟨e, t, bs, S _ _ h1, S _ _ h2, TupsAt.same S h3⟩)
/-- what those that ask for an obstacle first do -/
structure CfQ (K : PySem.W.Frag) (H : Hp) (Z : Prop) (E : XK) (es fs : List Int) : Prop where
  q0 : vdt es fs = 0 → Z
  q1 : ∀ k, vdt es fs = k → k ≠ 0 → k ≠ 4 → ∀ H' d p, Same H H' → H' d = some (.xd [("reason", .ref p)]) → RsnAt H' p k es fs → E (.ref (atTop K "NoPlan")) (some d) H'
  q4 : vdt es fs = 4 → ∀ H' d t bs, Same H H' → H' d = some (.xd [("rings", .ref t)]) → H' t = some (.tup (bs.map V.ref)) → NRows H' bs (rngs es fs) → E (.ref (atTop K "Undecided")) (some d) H'
/-- kinds, and those unlike the first -/
def kinds (es : List Int) : List Int := (es.filter fun e => !decide (e = -1)).map fun e => e.fdiv 100
theorem kinds_len (es : List Int) : (kinds es).length ≤ es.length := by
  unfold kinds
  rw [List.length_map]
  exact List.length_filter_le ..
theorem kinds_next {es : List Int} {i : Nat} (h : i < es.length) : kinds (es.take (i + 1)) = kinds (es.take i) ++ if es[i] = -1 then [] else [es[i].fdiv 100] := by
  unfold kinds
  rw [take_next h, List.filter_append, List.map_append]
  congr 1
  by_cases z : es[i] = -1
  · rw [if_pos z, List.filter_cons_of_neg (by rw [decide_eq_true z]; decide)]; rfl
  · rw [if_neg z, List.filter_cons_of_pos (by rw [decide_eq_false z]; decide)]; rfl
theorem sg_fdiv {x y : Int} (h1 : -1 ≤ x ∧ x ≤ 999) (h2 : -1 ≤ y ∧ y ≤ 999) (nx : x ≠ -1) (ny : y ≠ -1) : sg x = sg y ↔ x.fdiv 100 = y.fdiv 100 := by
  unfold sg
  rw [if_neg nx, if_neg ny]
  obtain ⟨a0, a1⟩ := kind_small (e := x) (by omega) h1.2
  obtain ⟨b0, b1⟩ := kind_small (e := y) (by omega) h2.2
  omega
theorem NRows.upd {H : Hp} {bs : List Addr} {ps : List (List Nat)} {D : Addr} {xs : List V} {o : HO} (t : NRows H bs ps) (h : H D = some (.lst xs)) : NRows (L2.upd H D o) bs ps := TupsAt.mut h t
def rowD (p : List Nat) : PyData := .tuple ((niz p).map PyData.int)
theorem dp_rws {K : PySem.W.Frag} {H : Hp} : ∀ {bs : List Addr} {ps : List (List Nat)}, NRows H bs ps → DpAll K H (bs.map V.ref) (ps.map rowD)
  | [], [], _ => .nil
  | [], p :: ps, t => by have := t.1; simp at this
  | b :: bs, [], t => by have := t.1; simp at this
  | b :: bs, p :: ps, t => by
    obtain ⟨q, e1, e2⟩ := t.2 0 (nvs p) rfl
    cases e1
    exact .cons (.tup (SqT.of e2) (dp_ints (niz p))) (dp_rws ⟨by have := t.1; simpa using this, fun i vs e => t.2 (i + 1) vs e⟩)
theorem sh_rows (ps : List (List Nat)) : Sh 2 (.list (ps.map rowD)) := Sh.list fun d hd => by
  obtain ⟨p, _, rfl⟩ := List.mem_map.mp hd
  exact Sh.tuple fun d hd => by
    obtain ⟨x, _, rfl⟩ := List.mem_map.mp hd
    exact Sh.int x
/-- the lines of a staircase -/
def stairL : List Int → List (Nat × Nat) → List Ln
  | _, [] => []
  | g, (t, s) :: ms => ⟨sMove, t, s, codes g⟩ :: stairL (mv g t s) ms
theorem stair_len : ∀ (ms : List (Nat × Nat)) (g : List Int), (stairL g ms).length = ms.length
  | [], _ => rfl
  | (t, s) :: ms, g => by
    show (stairL (mv g t s) ms).length + 1 = _
    rw [stair_len ms]; rfl
/-- how far a climb is after some moves -/
structure Hlf (es fs : List Int) (ms : List (Nat × Nat)) (i : Nat) (g : List Int) (V : List (List Nat)) : Prop where
  rest : ∃ V', climb g V (ms.drop i) fs V'
  ls : (stairL es ms).drop i = stairL g (ms.drop i)
  len : g.length = es.length
  rg : Rg g
  vs : V.length = i + 1 ∧ V.getLast? = some (codes g)
theorem Hlf.start {es fs : List Int} {ms : List (Nat × Nat)} {V' : List (List Nat)} (c : climb es [codes es] ms fs V') (R : Rg es) : Hlf es fs ms 0 es [codes es] := ⟨⟨V', c⟩, rfl, rfl, R, rfl, rfl⟩
theorem Hlf.step {es fs : List Int} {ms : List (Nat × Nat)} {i : Nat} {g : List Int} {V : List (List Nat)} (h : Hlf es fs ms i g V) (hi : i < ms.length) :
    ∃ t s : Nat, (stairL es ms)[i]? = some ⟨sMove, (t : Int), (s : Int), codes g⟩ ∧ t < g.length ∧ s < g.length ∧ g.getD t 0 = -1 ∧ g.getD s 0 ≠ -1 ∧ codes (mv g t s) ∉ V ∧ Hlf es fs ms (i + 1) (mv g t s) (V ++ [codes (mv g t s)]) := by
  obtain ⟨V', c⟩ := h.rest
  have ls := h.ls
  rw [List.drop_eq_getElem_cons hi] at c ls
  generalize ms[i] = p at c ls
  obtain ⟨t, s⟩ := p
  have ls : (stairL es ms).drop i = ⟨sMove, t, s, codes g⟩ :: stairL (mv g t s) (ms.drop (i + 1)) := ls
  obtain ⟨c1, c2, c3, c4, c5, c6⟩ := c
  refine ⟨t, s, ?_, c1, c2, c3, c4, c5, ⟨V', c6⟩, ?_, (mv_len g t s).trans h.len, mv_rg h.rg c2, ?_, ?_⟩
  · have := congrArg (·[0]?) ls
    rw [List.getElem?_drop] at this
    exact this
  · have := congrArg (List.drop 1) ls
    rw [List.drop_drop] at this
    exact this
  · rw [List.length_append, h.vs.1]; rfl
  · rw [List.getLast?_append]; rfl
theorem Hlf.done {es fs : List Int} {ms : List (Nat × Nat)} {g : List Int} {V : List (List Nat)} (h : Hlf es fs ms ms.length g V) : g = fs := by
  obtain ⟨V', c⟩ := h.rest
  rw [List.drop_length] at c
  exact c.1.symm
theorem atI_end {xs : List V} {v : V} (h : xs.getLast? = some v) : atI xs (-1) = some v := by
  have hl : 0 < xs.length := by
    cases xs with
    | nil => cases h
    | cons x r => exact Nat.succ_pos _
  unfold atI ixN
  rw [if_neg (by decide), if_pos (by omega)]
  show xs[((-1 : Int) + ((xs.length : Nat) : Int)).toNat]? = _
  rw [show ((-1 : Int) + ((xs.length : Nat) : Int)).toNat = xs.length - 1 by omega, ← List.getLast?_eq_getElem?]
  exact h
theorem last_txt {Vw : List (List Nat)} {c : List Nat} (h : Vw.getLast? = some c) : atI (Vw.map fun c => V.str (txt c)) (-1) = some (.str (txt c)) := atI_end (by rw [List.getLast?_map, h]; rfl)
theorem inV_txts {c : List Nat} {Vw : List (List Nat)} : inV (.str (txt c)) (Vw.map fun c => V.str (txt c)) = decide (c ∈ Vw) := by
  unfold inV
  rw [List.any_map]
  have e : ((fun y => eqV y (.str (txt c))) ∘ fun c => V.str (txt c)) = fun n : List Nat => decide (txt n = txt c) := by
    funext n
    rfl
  rw [e, Bool.eq_iff_iff, List.any_eq_true, decide_eq_true_eq]
  exact ⟨fun ⟨x, h1, h2⟩ => by rw [← txt_inj (of_decide_eq_true h2)]; exact h1, fun h => ⟨c, h, decide_eq_true rfl⟩⟩
theorem txts_flat (Vw : List (List Nat)) : (Vw.map fun c => V.str (txt c)).all flatV = true := by
  rw [List.all_eq_true]
  intro x hx
  obtain ⟨y, _, rfl⟩ := List.mem_map.mp hx
  rfl
theorem set_mv (g : List Int) (t s : Nat) : ((g.map V.int).set t (V.int (g.getD s 0))).set s (V.int (-1)) = (mv g t s).map V.int := by
  unfold mv
  rw [List.map_set, List.map_set]
end Rv
/-! plans in the heap: staircases -/
namespace Rv
open PySem PySem.Spec PyProof.Rows L2 RL RQ RV
theorem sg_ge {e : Int} (h : -1 ≤ e ∧ e ≤ 999) : sg e = 46 ∨ 48 ≤ sg e := by
  unfold sg
  by_cases z : e = -1
  · rw [if_pos z]; exact .inl rfl
  · rw [if_neg z]; exact .inr (Nat.le_add_right ..)
theorem fits_self {cs : List Nat} (h : ∀ c ∈ cs, c = 46 ∨ 48 ≤ c) : fitsL cs cs = true := by
  unfold fitsL
  rw [List.all_map, List.all_eq_true]
  intro p hp
  obtain ⟨i, hi⟩ := List.getElem?_of_mem hp
  rw [List.getElem?_zip_eq_some] at hi
  have e : p.1 = p.2 := Option.some.inj (hi.1.symm.trans hi.2)
  have := h p.1 (List.mem_of_getElem? hi.1)
  show fitC p.1 p.2 = true
  unfold fitC
  rw [if_neg (by omega), if_neg (by omega), e]
  simp
theorem car_mv {g : List Int} (R : Rg g) {t s : Nat} (lt : t < g.length) (ls : s < g.length) (fs : g.getD s 0 ≠ -1) : carL (origL ⟨sMove, (t : Int), (s : Int), codes g⟩ (codes g)) g = mv g t s := by
  have cl := codes_len g
  have ok : ∀ c ∈ codes g, c = 46 ∨ 48 ≤ c := fun c hc => by
    unfold codes at hc
    obtain ⟨e, he, rfl⟩ := List.mem_map.mp hc
    exact sg_ge (R e he)
  have full : fullAt (codes g) (s : Int) = true := by
    unfold fullAt
    show (!decide ((codes g).getD s 0 = 46)) = true
    rw [decide_eq_false (rg_full R ls fs)]; rfl
  have w : worksL ⟨sMove, (t : Int), (s : Int), codes g⟩ (codes g) = true := by
    unfold worksL
    show (fitsL (codes g) (codes g) && _) = true
    rw [fits_self ok, full, Bool.or_true, Bool.and_true]
  have e : origL ⟨sMove, (t : Int), (s : Int), codes g⟩ (codes g) = ((baseL (codes g)).set t (s : Int)).set s (-1) := by
    unfold origL
    rw [if_pos w, if_pos rfl]; rfl
  rw [e]
  have lb : (baseL (codes g)).length = g.length := by rw [base_len, cl]
  refine List.ext_getElem (by unfold carL; rw [List.length_map, List.length_set, List.length_set, lb, mv_len]) fun i h1 h2 => ?_
  have hi : i < g.length := by rw [mv_len] at h2; exact h2
  have hm := mv_at lt ls i
  rw [getD_get h2] at hm
  rw [hm]
  have hc : ∀ (L : List Int) (i : Nat) (h : i < (carL L g).length) (h2 : i < L.length), (carL L g)[i] = if L[i] = -1 then -1 else g.getD (L[i]).toNat 0 := fun L i h h2 => by simp [carL]
  rw [hc _ _ _ (by rw [List.length_set, List.length_set, lb]; exact hi), List.getElem_set]
  by_cases z : s = i
  · rw [if_pos z, if_pos z]; rfl
  · rw [if_neg z, if_neg z, List.getElem_set]
    by_cases y : t = i
    · rw [if_pos y, if_pos y, if_neg (by omega)]; rfl
    · rw [if_neg y, if_neg y, base_get (by rw [cl]; exact hi)]
      have c46 := code_46 R hi
      rw [getD_getN (by rw [cl]; exact hi)] at c46
      by_cases x : (codes g)[i]'(by rw [cl]; exact hi) = 46
      · rw [if_pos x, if_pos rfl, c46.mp x]
      · rw [if_neg x, if_neg (by omega)]; rfl
theorem sign_sg {e : Int} (h : -1 ≤ e ∧ e ≤ 999) : Sign (sg e) := by
  unfold sg
  by_cases z : e = -1
  · rw [if_pos z]; exact .inl rfl
  · rw [if_neg z]
    obtain ⟨k0, k1⟩ := kind_small (e := e) (by omega) h.2
    exact .inr (.inr (.inr ⟨Nat.le_add_right .., by omega⟩))
theorem stair_ms : ∀ (ms : List (Nat × Nat)) (g : List Int) (i : Nat) (r : Ln), (stairL g ms)[i]? = some r → ∃ p : Nat × Nat, ms[i]? = some p ∧ r.t = (p.1 : Int) ∧ r.o = (p.2 : Int)
  | [], g, i, r, h => by cases h
  | (t, s) :: ms, g, 0, r, h => by
    cases h
    exact ⟨(t, s), rfl, rfl, rfl⟩
  | (t, s) :: ms, g, i + 1, r, h => stair_ms ms (mv g t s) i r h
theorem Hlf.img {es fs : List Int} {ms : List (Nat × Nat)} {i : Nat} {g : List Int} {V : List (List Nat)} (h : Hlf es fs ms i g V) (I : Img es) : Img g := ⟨by rw [h.len]; exact I.1, by rw [h.len]; exact I.2.1, h.rg⟩
theorem move_ok {g : List Int} (I : Img g) {t s : Nat} (l1 : t < g.length) (l2 : s < g.length) (g1 : g.getD t 0 = -1) (g2 : g.getD s 0 ≠ -1) : LnOk g.length ⟨sMove, (t : Int), (s : Int), codes g⟩ :=
  ⟨by show (0 : Int) ≤ (t : Int); omega, by show (t : Int) < _; omega, .inr ⟨.inr rfl, by show (0 : Int) ≤ (s : Int); omega, by show (s : Int) < _; omega, fun e => g2 (by
    have e : (s : Int) = (t : Int) := e
    have : s = t := by omega
    rw [this]; exact g1)⟩, .inr (codes_len g), fun c hc => by
    have hc : c ∈ codes g := hc
    unfold codes at hc
    obtain ⟨e, he, rfl⟩ := List.mem_map.mp hc
    exact sign_sg (I.2.2 e he)⟩
/-- pairs of blocks in the heap -/
def Prs (H : Hp) (qs : List Addr) (ms : List (Nat × Nat)) : Prop := TupsAt H qs (ms.map fun p => [V.int (p.1 : Int), V.int (p.2 : Int)])
theorem planned_few {es fs : List Int} {ms : List (Nat × Nat)} (p : Planned es fs ms) (I : Img es) : ms.length ≤ 24 := by
  have h1 : (mvA es fs es.length).length ≤ es.length := by
    have l2 := List.length_filter_le (fun b => !decide (fs.getD b 0 = es.getD b 0) && !decide (fs.getD b 0 = -1)) (List.range es.length)
    rw [List.length_range] at l2
    unfold mvA
    rw [List.length_map]
    exact l2
  have h2 : (rngs es fs).length ≤ es.length := by
    have := List.length_filter_le (fun b => decide (IsR (G es fs) (Fo es fs b))) (List.range es.length)
    rw [List.length_range] at this
    unfold rngs tops
    rw [List.length_map]
    exact this
  have := p.len
  have := I.2.1
  omega
theorem planned_same {es : List Int} (R : Ren es es) (Re : Rg es) : Planned es es [] := by
  have n1 : chns es es = [] := by
    unfold chns starts
    rw [List.map_eq_nil_iff, List.filter_eq_nil_iff]
    intro b _ h
    have h := of_decide_eq_true h
    exact h.2 h.1
  have n2 : rngs es es = [] := by
    unfold rngs tops
    rw [List.map_eq_nil_iff, List.filter_eq_nil_iff]
    intro b hb h
    have h := of_decide_eq_true h
    have lb := List.mem_range.mp hb
    have A := (rg_end R lb h).2.2
    have := R.inj A.l1 A.l2 A.eq A.fu
    exact A.ne this
  have := planned_chains R Re n2
  rw [n1] at this
  exact this
end Rv
/-! list(zip(a, b)) of two lists -/
namespace Rv
open PySem PySem.Spec PyProof.Rows L2 RZ
section
variable {X : Cx} {pins : List (Addr × Obj)} {σ : L2.St} {A1 : Around} {a b q z TI TO i1 i2 : Addr} {xs ys : List V} {H0 : Hp} {Rs : Result → Shared → Prop}
def ZStL (h : Heap) (H : Hp) (acc : List Addr) (z TI TO i1 i2 a b : Addr) (i : Nat) : Prop :=
  ZOwn h H acc z TI TO ∧ IsPair h TI (.ref i1) (.ref i2) ∧ (∃ x y, IsPair h TO x y) ∧ h.IsListIter i1 a i ∧ h.IsListIter i2 b i
theorem zll_loop (hh : A1.in1.handled = none) (D : ZipApart z TI TO i1 i2 a b) (hm : xs.length < 1000) (ha0 : H0 a = some (.lst xs)) (hb0 : H0 b = some (.lst ys))
    (hdone : ∀ acc H s, Inv X pins σ H s → H q = some (.lst (acc.map V.ref)) → (∀ c u, H0 c = some u → H c = some u) → ZPairs H0 xs ys acc H → acc.length = min xs.length ys.length → Rs (.ok (.ret .none)) s) :
    ∀ (n i : Nat) (acc : List Addr) (H : Hp) (s : Shared), n + i = min xs.length ys.length → Inv X pins σ H s → (∀ c ∈ [z, TI, TO, i1, i2], FpOk X pins H c) → acc.length = i →
      H0 q = none → H q = some (.lst (acc.map V.ref)) → (∀ c u, H0 c = some u → H c = some u) → ZPairs H0 xs ys acc H → ZStL s.heap H acc z TI TO i1 i2 a b i →
      codeAny (model X.prog X.w) A1 (.builtin "list.extend.loop" ⟨[.ref q, .ref z, .none], []⟩) Rs s := by
  intro n
  induction n with
  | zero =>
    intro i acc H s hn I hf la hq0 hq h0 hp st
    have ha : SqL X.K H a xs := SqL.of (h0 _ _ ha0)
    have hb : SqL X.K H b ys := SqL.of (h0 _ _ hb0)
    refine codeAny_builtin PySem.F.entry_extend_loop ?_
    rw [Around.under_plainId PySem.F.plain_extend_loop _]
    show wpAny _ A1.in1 (pyNext (.ref z) >>= _) _ _ s
    obtain ⟨own, hTI, ⟨x0, y0, hTO⟩, h1, h2⟩ := st
    obtain ⟨its, rv, p1, _⟩ := I.list ha
    obtain ⟨its2, rv2, p2, _⟩ := I.list hb
    have l1 := rv.length
    have l2 := rv2.length
    have he : its.toArray[i]? = none ∨ its2.toArray[i]? = none := by
      by_cases k : xs.length ≤ ys.length
      · exact .inl (by simp; omega)
      · exact .inr (by simp; omega)
    have fin : ∀ h', (∀ c o, c ≠ z → c ≠ TO → c ≠ i1 → c ≠ i2 → s.heap.get? c = some o → h'.get? c = some o) → Rs (.ok (.ret .none)) { s with heap := h' } := fun h' hk =>
      hdone acc H _ (I.turnedL (t' := s.toks) (ch := [z, TI, TO, i1, i2]) (fun c o hb e => hk c o (fun e' => hb (by simp [e'])) (fun e' => hb (by simp [e'])) (fun e' => hb (by simp [e'])) (fun e' => hb (by simp [e'])) e) hf) hq h0 hp (by omega)
    rcases own with ⟨_, hz⟩ | ⟨T, fl, u, hz, hT⟩
    · exact wpAny_bind (wpAny_pyNext_zip_end hh D hz hTI hTO h1 h2 p1.isList p2.isList he fun h' hk => wpAny_pure (fin h' hk))
    · obtain ⟨o, ho⟩ : ∃ o, s.heap.get? T = some o := by
        obtain ⟨_, _, p3, _⟩ := I.tuple (show SqT X.K H T u from .inl (.inl hT))
        obtain ⟨o, ho, _⟩ := id p3
        exact ⟨o, ho⟩
      exact wpAny_bind (wpAny_pyNext_zip_end_held hh D hz ho hTI h1 h2 p1.isList p2.isList he fun h' hk => wpAny_pure (fin h' fun c o c1 _ c3 c4 e => hk c o c1 c3 c4 e))
  | succ n ih =>
    intro i acc H s hn I hf la hq0 hq h0 hp st
    have ha : SqL X.K H a xs := SqL.of (h0 _ _ ha0)
    have hb : SqL X.K H b ys := SqL.of (h0 _ _ hb0)
    refine codeAny_builtin PySem.F.entry_extend_loop ?_
    rw [Around.under_plainId PySem.F.plain_extend_loop _]
    show wpAny _ A1.in1 (pyNext (.ref z) >>= _) _ _ s
    obtain ⟨own, hTI, ⟨x0, y0, hTO⟩, h1, h2⟩ := st
    obtain ⟨its, rv, p1, _⟩ := I.list ha
    obtain ⟨its2, rv2, p2, _⟩ := I.list hb
    have l1 := rv.length
    have l2 := rv2.length
    obtain ⟨x, hx⟩ : ∃ x, xs[i]? = some x := ⟨_, List.getElem?_eq_getElem (by omega)⟩
    obtain ⟨y, hy⟩ : ∃ y, ys[i]? = some y := ⟨_, List.getElem?_eq_getElem (by omega)⟩
    obtain ⟨u, hu, ru⟩ := rv.get hx
    obtain ⟨u2, hu2, ru2⟩ := rv2.get hy
    have fn : H s.heap.objs.size = none := I.hok.fresh (Nat.le_refl _)
    have nq : q ≠ s.heap.objs.size := fun e => by rw [e, fn] at hq; cases hq
    have go : ∀ h' : Heap, (∃ (fl : Bool) (T : Addr) (w : List V), ZAt h' z TI TO (rawInt T) fl ∧ upd H s.heap.objs.size (.tup [x, y]) T = some (.tup w)) → (∃ x y, IsPair h' TO x y) → h'.IsListIter i1 a (i + 1) → h'.IsListIter i2 b (i + 1) → IsPair h' s.heap.objs.size u u2 →
        (∀ c o, c ≠ z → c ≠ TO → c ≠ i1 → c ≠ i2 → s.heap.get? c = some o → h'.get? c = some o) →
        wpAny (model X.prog X.w) A1.in1 (updateSeq q (·.push (.ref s.heap.objs.size)) >>= fun _ => again (.builtin "list.extend.loop" ⟨[.ref q, .ref z, .none], []⟩))
          (fun fin s' => match fin with | .done f => Rs (.ok f) s' | .again c' => c'.quiet = true ∧ codeAny (model X.prog X.w) A1 c' Rs s') (fun e s' => Rs (.error e) s') { s with heap := h' } := by
      intro h' hz' hTO' h1' h2' hT' hk
      have hTI' : IsPair h' TI (.ref i1) (.ref i2) := hk _ _ D.TIz D.TITO D.TIi1 D.TIi2 hTI
      have new : ObjOk X.prog X.w (upd H s.heap.objs.size (.tup [x, y])) h' s.heap.objs.size (.tup [x, y]) :=
        ⟨by show 2 ≤ sizeLine; rw [sizeLine_eq]; decide, [u, u2], .cons ru (.cons ru2 .nil), ⟨_, hT', rfl, _, rfl⟩⟩
      have I1 : Inv X pins σ (upd H s.heap.objs.size (.tup [x, y])) { s with heap := h' } :=
        I.turnedNew (t' := s.toks) (ch := [z, TI, TO, i1, i2]) (fun c o hb e => hk c o (fun e' => hb (by simp [e'])) (fun e' => hb (by simp [e'])) (fun e' => hb (by simp [e'])) (fun e' => hb (by simp [e'])) e) hf (Nat.le_refl _) new
      have hq1 : upd H s.heap.objs.size (.tup [x, y]) q = some (.lst (acc.map V.ref)) := by rw [upd_ne nq]; exact hq
      obtain ⟨_, its3, k, r3, hl3, e3⟩ := I1.lstM hq1
      rw [List.length_map] at hl3
      refine wpAny_bind (wpAny_updateSeq e3 rfl (wpAny_pure ⟨plainId_quiet PySem.F.plain_extend_loop _, ?_⟩) (by rw [List.size_toArray, sizeLine_eq]; omega) (by rw [Array.size_push, List.size_toArray, sizeLine_eq]; omega))
      have I2 := I1.lset (its' := its3 ++ [.ref s.heap.objs.size]) (ys := (acc ++ [s.heap.objs.size]).map V.ref) (f := (·.push (.ref s.heap.objs.size))) (t' := s.toks) hq1 e3 (by simp) (by rw [List.map_append]; exact r3.append (.cons rfl .nil)) (by rw [List.length_map, List.length_append, List.length_singleton, sizeLine_eq]; omega)
      have ex : ∀ c ∈ [z, TI, TO, i1, i2], c ≠ s.heap.objs.size ∧ c ≠ q := fun c hcm => by
        have hlt : c < s.heap.objs.size := by
          have e' : c = z ∨ c = TI ∨ c = TO ∨ c = i1 ∨ c = i2 := by simpa using hcm
          rcases e' with e | e | e | e | e
          · rw [e]
            rcases own with ⟨_, hz⟩ | ⟨T, fl, u, hz, hT⟩
            · exact Heap.lt_size hz
            · exact Heap.lt_size hz
          · rw [e]; exact Heap.lt_size hTI
          · rw [e]; exact Heap.lt_size hTO
          · rw [e]; obtain ⟨_, e1, _⟩ := h1; exact Heap.lt_size e1
          · rw [e]; obtain ⟨_, e2, _⟩ := h2; exact Heap.lt_size e2
        exact ⟨Nat.ne_of_lt hlt, fun e => by have := (hf c hcm).1; rw [e, hq] at this; cases this⟩
      have up : ∀ (c : Addr) (o : Obj), c ≠ q → h'.get? c = some o → (h'.update q (Obj.mapSeq (·.push (Value.ref s.heap.objs.size)))).get? c = some o := fun c o hc e => (Heap.get?_update_other _ _ (Ne.symm hc)).trans e
      refine ih (i + 1) (acc ++ [s.heap.objs.size]) _ _ (by omega) I2 (fun c hc => ⟨?_, (hf c hc).2⟩) (by rw [List.length_append, la, List.length_singleton]) hq0 upd_same (fun c v hv => ?_) (fun j t hj => ?_) ⟨.inr ?_, ?_, ?_, ?_, ?_⟩
      · rw [upd_ne (ex c hc).2, upd_ne (ex c hc).1]
        exact (hf c hc).1
      · have hcq : c ≠ q := fun e => by rw [e, hq0] at hv; cases hv
        have hcn : c ≠ s.heap.objs.size := fun e => by have w := h0 _ _ hv; rw [e, fn] at w; cases w
        rw [upd_ne hcq, upd_ne hcn]
        exact h0 _ _ hv
      · by_cases k : j < acc.length
        · rw [List.getElem?_append_left k] at hj
          obtain ⟨x1, y1, e1, e2, e3, e4⟩ := hp j t hj
          refine ⟨x1, y1, e1, e2, ?_, e4⟩
          rw [upd_ne (fun e => by rw [e, hq] at e3; cases e3), upd_ne (fun e => by rw [e, fn] at e3; cases e3)]
          exact e3
        · have hj2 := (List.getElem?_eq_some_iff.mp hj).1
          rw [List.length_append, List.length_singleton] at hj2
          have : j = i := by omega
          subst this
          rw [List.getElem?_append_right (by omega), la, Nat.sub_self] at hj
          cases hj
          refine ⟨x, y, hx, hy, ?_, ?_⟩
          · rw [upd_ne (Ne.symm nq), upd_same]
          · cases e : H0 s.heap.objs.size with
            | none => rfl
            | some v =>
              have w := h0 _ _ e
              rw [fn] at w
              cases w
      · obtain ⟨fl, T, w, e1, e2⟩ := hz'
        refine ⟨T, fl, w, up _ _ (ex z (by simp)).2 e1, ?_⟩
        rw [upd_ne (fun e => by rw [e, hq1] at e2; cases e2)]
        exact e2
      · exact up _ _ (ex TI (by simp)).2 hTI'
      · obtain ⟨x2, y2, e⟩ := hTO'
        exact ⟨x2, y2, up _ _ (ex TO (by simp)).2 e⟩
      · exact h1'.at fun o e => up _ o (ex i1 (by simp)).2 e
      · exact h2'.at fun o e => up _ o (ex i2 (by simp)).2 e
    rcases own with ⟨_, hz⟩ | ⟨T, fl, w, hz, hT⟩
    · exact wpAny_bind (wpAny_pyNext_zip_item D hz hTI hTO h1 h2 p1.isList p2.isList (x := u) (y := u2) (by simpa using hu) (by simpa using hu2) fun h' a1 a2 a3 a4 a5 _ a7 => go h' ⟨false, _, [x, y], a1, upd_same⟩ ⟨_, _, a2⟩ a3 a4 a5 a7)
    · obtain ⟨o, ho⟩ : ∃ o, s.heap.get? T = some o := by
        obtain ⟨_, _, p3, _⟩ := I.tuple (show SqT X.K H T w from .inl (.inl hT))
        obtain ⟨o, ho, _⟩ := id p3
        exact ⟨o, ho⟩
      exact wpAny_bind (wpAny_pyNext_zip_item_held D hz ho hTI h1 h2 p1.isList p2.isList (x := u) (y := u2) (by simpa using hu) (by simpa using hu2) fun h' a1 a2 a3 a4 _ a5 => go h' ⟨true, T, w, a1, by rw [upd_ne (fun e => by rw [e, fn] at hT; cases hT)]; exact hT⟩ ⟨_, _, a5 _ _ (Ne.symm (fun e => D.TOz e.symm)) D.TOi1 D.TOi2 hTO⟩ a2 a3 a4 fun c o c1 _ c3 c4 e => a5 c o c1 c3 c4 e)
/-- list(z), z a zip at its start -/
theorem zll_list {s : Shared} {Q : VK} (hc : X.calm = true) (D : ZipApart z TI TO i1 i2 a b) (hm : xs.length < 1000) (ha0 : H0 a = some (.lst xs)) (hb0 : H0 b = some (.lst ys)) (I : Inv X pins σ H0 s) (hf : ∀ c ∈ [z, TI, TO, i1, i2], FpOk X pins H0 c)
    (hz : IsZip s.heap z TI TO .none) (hTI : IsPair s.heap TI (.ref i1) (.ref i2)) (hTO : ∃ x y, IsPair s.heap TO x y) (h1 : s.heap.IsListIter i1 a 0) (h2 : s.heap.IsListIter i2 b 0)
    (hQ : ∀ q H acc, H0 q = none → H q = some (.lst (acc.map V.ref)) → (∀ c u, H0 c = some u → H c = some u) → ZPairs H0 xs ys acc H → acc.length = min xs.length ys.length → Q (.ref q) H) :
    wpAny (model X.prog X.w) X.A (call (.type "list") [.ref z]) (EP X pins σ Q) X.xe s := by
  refine callType_codes (Q₁ := fun obj s₁ => obj = .ref s.heap.objs.size ∧ s₁ = { s with heap := s.heap.push { cls := .type "list", data := .seq #[] } }) PySem.F.called_list (PySem.F.typeCall_list_1 _) PySem.F.entry_list_init
    (code_list_new _ ⟨rfl, rfl⟩) fun obj s₁ h₁ => ?_
  obtain ⟨rfl, rfl⟩ := h₁
  have hS : (s.heap.push { cls := .type "list", data := .seq #[] }).get? s.heap.objs.size = some { cls := .type "list", data := .seq #[] } := Heap.get?_push_size _ rfl
  refine ⟨⟨_, hS, rfl⟩, PySem.F.args_list_init_2 _ _, ?_⟩
  have fr : H0 s.heap.objs.size = none := I.hok.fresh (Nat.le_refl _)
  obtain ⟨x0, y0, hTO⟩ := hTO
  have ex : ∀ c ∈ [z, TI, TO, i1, i2], c < s.heap.objs.size := fun c hcm => by
    have e' : c = z ∨ c = TI ∨ c = TO ∨ c = i1 ∨ c = i2 := by simpa using hcm
    rcases e' with e | e | e | e | e
    · rw [e]; exact Heap.lt_size hz
    · rw [e]; exact Heap.lt_size hTI
    · rw [e]; exact Heap.lt_size hTO
    · rw [e]; obtain ⟨_, e1, _⟩ := h1; exact Heap.lt_size e1
    · rw [e]; obtain ⟨_, e2, _⟩ := h2; exact Heap.lt_size e2
  have I1 : Inv X pins σ (upd H0 s.heap.objs.size (.lst [])) { s with heap := s.heap.push { cls := .type "list", data := .seq #[] } } := I.lnew (its := []) (t' := s.toks) .nil (Nat.zero_le _)
  show wpAny _ _ (do let old ← Builtin.List.listItems (.ref s.heap.objs.size); Builtin.List.listUpdate (.ref s.heap.objs.size) (fun _ => #[]); letGo old.toList.reverse; Builtin.List.listExtendWith (.ref s.heap.objs.size) (.ref z) .none) _ _ _
  refine wpAny_bind ?_
  unfold Builtin.List.listItems
  refine wpAny_bind (wpAny_seqItems hS rfl (wpAny_pure ?_))
  show wpAny _ _ (updateSeq s.heap.objs.size (fun _ => #[]) >>= fun _ => letGo (#[] : Array Value).toList.reverse >>= fun _ => Builtin.List.listExtendWith (.ref s.heap.objs.size) (.ref z) .none) _ _ _
  refine wpAny_bind (wpAny_updateSeq hS rfl ?_)
  have hS2 := Heap.get?_update_self (Obj.mapSeq (fun _ => (#[] : Array Value))) hS rfl
  have I2 := I1.lset (f := fun _ => #[]) (its := []) (its' := []) (ys := []) (t' := s.toks) upd_same hS rfl .nil (Nat.zero_le _)
  rw [upd_upd] at I2
  refine wpAny_bind (wpAny_letGo ?_)
  have up1 : ∀ (c : Addr) (o : Obj), s.heap.get? c = some o → ((s.heap.push { cls := .type "list", data := .seq #[] }).update s.heap.objs.size (Obj.mapSeq (fun _ => #[]))).get? c = some o := fun c o e =>
    (Heap.get?_update_other _ _ (Ne.symm (Nat.ne_of_lt (Heap.lt_size e)))).trans (Heap.get?_push_of_some _ e)
  unfold Builtin.List.listExtendWith
  refine wpAny_bind (wpAny_typeOf (T := "zip") ⟨_, up1 _ _ hz, rfl⟩ ?_)
  have q1 : Builtin.List.listSameRef (.ref s.heap.objs.size) (.ref z) = false := by simp [Builtin.List.listSameRef, Nat.ne_of_gt (ex z (by simp))]
  have q2 : (Value.type "zip" == Value.type "list") = false := by decide
  have q3 : (Value.type "zip" == Value.type "tuple") = false := by decide
  simp only [q1, q2, q3, Bool.or_false, Bool.false_eq_true, if_false]
  refine wpAny_bind (wpAny_pyIter_zip (up1 _ _ hz) ?_)
  refine wpAny_bind (wpAny_holding ?_)
  unfold Builtin.List.listLengthHint
  refine wpAny_bind (wpAny_specialOf (T := "zip") ⟨_, up1 _ _ hz, rfl⟩ nolen_zp ?_)
  show wpAny _ _ (specialOf (Value.ref z) (Str.ofString "__length_hint__") >>= _) _ _ _
  refine wpAny_bind (wpAny_specialOf (T := "zip") ⟨_, up1 _ _ hz, rfl⟩ nohint_zp ?_)
  refine wpAny_pure ?_
  show wpAny _ _ (rule "list.extend.makes-room" >>= fun _ => Builtin.List.listTouch (.ref s.heap.objs.size) >>= fun _ =>
    again (.builtin "list.extend.loop" ⟨[.ref s.heap.objs.size, .ref z, .none], []⟩)) _ _ _
  refine wpAny_bind (wpAny_rule ?_)
  refine wpAny_bind ?_
  show wpAny _ _ (updateSeq s.heap.objs.size (·.push .none) >>= fun _ => updateSeq s.heap.objs.size (·.pop)) _ _ _
  refine wpAny_bind (wpAny_updateSeq hS2 rfl ?_)
  have I3 := I2.lset (f := (·.push Value.none)) (its := []) (its' := [Value.none]) (ys := [.non]) (t' := s.toks) upd_same hS2 rfl (.cons rfl .nil) (by rw [List.length_singleton, sizeLine_eq]; decide)
  rw [upd_upd] at I3
  have hS3 := Heap.get?_update_self (Obj.mapSeq (·.push Value.none)) hS2 rfl
  refine wpAny_updateSeq (hz := by seq_fits) hS3 rfl ?_
  have I4 := I3.lset (f := (·.pop)) (its := [Value.none]) (its' := []) (ys := []) (t' := s.toks) upd_same hS3 rfl .nil (Nat.zero_le _)
  rw [upd_upd] at I4
  have nq : ∀ c ∈ [z, TI, TO, i1, i2], c ≠ s.heap.objs.size := fun c hc => Nat.ne_of_lt (ex c hc)
  have up4 : ∀ (c : Addr) (o : Obj), s.heap.get? c = some o → ((((s.heap.push { cls := .type "list", data := .seq #[] }).update s.heap.objs.size (Obj.mapSeq (fun _ => #[]))).update s.heap.objs.size (Obj.mapSeq (·.push Value.none))).update s.heap.objs.size (Obj.mapSeq (·.pop))).get? c = some o := fun c o e =>
    (Heap.get?_update_other _ _ (Ne.symm (Nat.ne_of_lt (Heap.lt_size e)))).trans ((Heap.get?_update_other _ _ (Ne.symm (Nat.ne_of_lt (Heap.lt_size e)))).trans (up1 c o e))
  refine wpAny_pure ⟨plainId_quiet PySem.F.plain_extend_loop _, zll_loop (A1 := X.A.in1) (q := s.heap.objs.size) (H0 := H0) (I.ok.hd hc) D hm ha0 hb0
    (fun acc H s' I' e1 e2 e3 e4 => ?_) (min xs.length ys.length) 0 [] _ _ (by omega) I4 (fun c hcm => ⟨?_, (hf c hcm).2⟩) rfl fr upd_same (fun c u hu => ?_) (fun j t hj => by cases hj) ⟨.inl ⟨rfl, up4 _ _ hz⟩, up4 _ _ hTI, ⟨_, _, up4 _ _ hTO⟩, h1.at fun o e => up4 _ o e, h2.at fun o e => up4 _ o e⟩⟩
  · exact ⟨rfl, .ref s.heap.objs.size, H, I', rfl, hQ _ _ _ fr e1 e2 e3 e4⟩
  · rw [upd_ne (nq c hcm)]
    exact (hf c hcm).1
  · rw [upd_ne (fun e => by rw [e, fr] at hu; cases hu)]
    exact hu
end
section
variable {X : Cx}
def tLzL (K : PySem.W.Frag) (ta : TA) : TE := fun σ H Q => ta σ H fun vs H1 => ∃ a b xs ys, vs = [.ref a, .ref b] ∧ H1 a = some (.lst xs) ∧ H1 b = some (.lst ys) ∧ xs.length < 1000 ∧
  ∀ q H2 acc, H1 q = none → H2 q = some (.lst (acc.map V.ref)) → (∀ c u, H1 c = some u → H2 c = some u) → ZPairs H1 xs ys acc H2 → acc.length = min xs.length ys.length → Q (.ref q) H2
theorem pe_lzL {e e2 : Expr} {ta : TA} {p pz pos posz : Pos} (hc : X.calm = true) (hgl : Gl X "list") (hml : X.mg "list" = none) (hgz : Gl X "zip") (hmz : X.mg "zip" = none) (ha : PA X [e, e2] ta)
    (hs : starEach [e, e2] X.env = (false, eval e X.env) :: starEach [e2] X.env := by rfl) (hpl : (backTo posz (starEach [e2] X.env)).any (·.1) = false := by rfl)
    (na : starEach [.Call (.Name "zip" pz) [e, e2] [] posz] X.env = (false, eval (.Call (.Name "zip" pz) [e, e2] [] posz) X.env) :: starEach [] X.env := by rfl) :
    PE X (.Call (.Name "list" p) [.Call (.Name "zip" pz) [e, e2] [] posz] [] pos) (tLzL X.K ta) := by
  refine ⟨fun pins s σ H Q I h => ?_⟩
  have zipped : wpAny (model X.prog X.w) X.A (eval (.Call (.Name "zip" pz) [e, e2] [] posz) X.env) (fun v s1 => ∃ (z TI TO i1 i2 a b : Addr) (xs ys : List V) (H1 : Hp), v = .ref z ∧ ZipApart z TI TO i1 i2 a b ∧ H1 a = some (.lst xs) ∧ H1 b = some (.lst ys) ∧ xs.length < 1000 ∧
      Inv X pins σ H1 s1 ∧ (∀ c ∈ [z, TI, TO, i1, i2], FpOk X pins H1 c) ∧ IsZip s1.heap z TI TO .none ∧ IsPair s1.heap TI (.ref i1) (.ref i2) ∧ (∃ x y, IsPair s1.heap TO x y) ∧ s1.heap.IsListIter i1 a 0 ∧ s1.heap.IsListIter i2 b 0 ∧
      ∀ q H2 acc, H1 q = none → H2 q = some (.lst (acc.map V.ref)) → (∀ c u, H1 c = some u → H2 c = some u) → ZPairs H1 xs ys acc H2 → acc.length = min xs.length ys.length → Q (.ref q) H2) X.xe s := by
    refine Call_ (ld_blt I hgz hmz PyProof.Rows.boot_zip (PyProof.Rows.callWith_type1 (thn (ha.run posz pins s σ H _ I h) fun us s1 ⟨vs, H1, I1, r1, q1⟩ => ?_) hs hpl))
    obtain ⟨a, b, xs, ys, rfl, qa, qb, hl, q1⟩ := q1
    cases r1 with
    | cons r rr =>
      cases rr with
      | cons r' rr =>
        cases rr
        cases r
        cases r'
        obtain ⟨its, rv, p1, _⟩ := I1.list (show SqL X.K H1 a xs from SqL.of qa)
        obtain ⟨its2, rv2, p2, _⟩ := I1.list (show SqL X.K H1 b ys from SqL.of qb)
        obtain ⟨o1, _, ho1, _⟩ := id p1
        obtain ⟨o2, _, ho2, _⟩ := id p2
        refine call_zip_2 p1.isList p2.isList fun h' hz hTI hTO h1 h2 hsz hk => ?_
        refine ⟨s1.heap.objs.size + 4, s1.heap.objs.size + 2, s1.heap.objs.size + 3, s1.heap.objs.size, s1.heap.objs.size + 1, a, b, xs, ys, H1, rfl, PySem.W.ktu_apart s1.heap.objs.size a b (Heap.lt_size ho1) (Heap.lt_size ho2), qa, qb, hl,
          I1.kept (t' := s1.toks) hk, fun c hcm => ?_, hz, hTI, ⟨_, _, hTO⟩, h1, h2, q1⟩
        have hle : s1.heap.objs.size ≤ c := by
          have e' : c = s1.heap.objs.size + 4 ∨ c = s1.heap.objs.size + 2 ∨ c = s1.heap.objs.size + 3 ∨ c = s1.heap.objs.size ∨ c = s1.heap.objs.size + 1 := by simpa using hcm
          rcases e' with e | e | e | e | e
          · rw [e]; exact Nat.le_add_right _ _
          · rw [e]; exact Nat.le_add_right _ _
          · rw [e]; exact Nat.le_add_right _ _
          · rw [e]; exact Nat.le_refl _
          · rw [e]; exact Nat.le_add_right _ _
        exact I1.fpOk hle (I1.hok.fresh hle)
  refine Call_ (ld_blt I hgl hml boot_list (PyProof.Rows.callWith_type1 (args_cons (thn zipped fun v s1 ⟨z, TI, TO, i1, i2, a, b, xs, ys, H1, ev, D, qa, qb, hl, I1, hf, hz, hTI, hTO, h1, h2, q⟩ => args_nil ?_) na) na))
  subst ev
  exact zll_list hc D hl qa qb I1 hf hz hTI hTO h1 h2 q
theorem pe_or {e : Expr} {t1 t2 : TE} (h1 : PE X e t1) (h2 : PE X e t2) : PE X e (fun σ H Q => t1 σ H Q ∨ t2 σ H Q) := ⟨fun pins s σ H Q I h => h.elim (h1.run pins s σ H Q I) (h2.run pins s σ H Q I)⟩
end
end Rv
/-! rows of block numbers: min, remove, sorted, in; xs[::-1]; zip of a way with what follows -/
namespace Rv
open PySem PySem.Spec PyProof.Rows L2 RL RQ RV
section
variable {X : Cx} {K : PySem.W.Frag} {H : Hp} {Q : VK}
def LzL (Q : VK) (vs : List V) (H1 : Hp) : Prop := ∃ a b xs ys, vs = [.ref a, .ref b] ∧ H1 a = some (.lst xs) ∧ H1 b = some (.lst ys) ∧ xs.length < 1000 ∧
  ∀ q H2 acc, H1 q = none → H2 q = some (.lst (acc.map V.ref)) → (∀ c u, H1 c = some u → H2 c = some u) → ZPairs H1 xs ys acc H2 → acc.length = min xs.length ys.length → Q (.ref q) H2
theorem rd_lzL {ta : TA} {σ : L2.St} (q : ta σ H fun vs H1 => LzL Q vs H1) : tLzL K ta σ H Q := q
theorem nvs_drop (p : List Nat) (i : Nat) : (nvs p).drop i = nvs (p.drop i) := by unfold nvs niz; rw [List.map_drop, List.map_drop]
theorem nvs_cut1 {p : List Nat} (h : p ≠ []) : cutV (nvs p) (some 1) none = nvs (p.drop 1) := by
  have l1 : 0 < p.length := List.length_pos_iff.mpr h
  have z := cut_from (xs := nvs p) (k := 1) (by rw [nvs_len]; omega)
  rw [nvs_drop] at z
  exact z
theorem zp_along {H1 H2 : Hp} {p : List Nat} {acc : List Addr} (z : ZPairs H1 (nvs p) (nvs (p.drop 1)) acc H2) (l : acc.length = min (nvs p).length (nvs (p.drop 1)).length) : Prs H2 acc (along p) := by
  rw [nvs_len, nvs_len, List.length_drop] at l
  have la := along_len p
  refine ⟨by rw [l, List.length_map, la]; omega, fun i vs e => ?_⟩
  rw [List.getElem?_map] at e
  cases e0 : (along p)[i]? with
  | none => rw [e0] at e; cases e
  | some q =>
    rw [e0] at e
    cases e
    have li := (List.getElem?_eq_some_iff.mp e0).1
    rw [la] at li
    have e0' := e0
    unfold along at e0'
    rw [List.getElem?_zip_eq_some] at e0'
    obtain ⟨h1, h2⟩ := e0'
    have ea : acc[i]? = some acc[i] := List.getElem?_eq_getElem (by omega)
    obtain ⟨x', y', e1, e2, e3, _⟩ := z i _ ea
    rw [nvs_get h1] at e1
    rw [nvs_get (show (p.drop 1)[i]? = some q.2 by rw [List.drop_one]; exact h2)] at e2
    cases e1
    cases e2
    exact ⟨_, ea, e3⟩
/-! xs[::-1] -/
def RvL (K : PySem.W.Frag) (Q : VK) (x : V) (H1 : Hp) : Prop := ∃ a xs, x = .ref a ∧ SqL K H1 a xs ∧ NewL (.lst xs.reverse) Q H1
theorem rd_revL {te : TE} {σ : L2.St} (q : te σ H fun x H1 => RvL K Q x H1) : tRevL K te σ H Q := q
theorem rd_RvL {a : Addr} {xs : List V} (h : H a = some (.lst xs)) (q : NewL (.lst xs.reverse) Q H) : RvL K Q (.ref a) H := ⟨a, xs, rfl, SqL.of h, q⟩
theorem NRows.get {bs : List Addr} {ps : List (List Nat)} (t : NRows H bs ps) {i : Nat} {b : Addr} (h : bs[i]? = some b) : ∃ p, ps[i]? = some p ∧ H b = some (.tup (nvs p)) := by
  have lb := NRows.len t
  have hi := (List.getElem?_eq_some_iff.mp h).1
  obtain ⟨a, e1, e2⟩ := NRows.at t (List.getElem?_eq_getElem (show i < ps.length by omega))
  rw [h] at e1
  cases e1
  exact ⟨_, List.getElem?_eq_getElem (by omega), e2⟩
theorem NRows.mk {bs : List Addr} {ps : List (List Nat)} (l : bs.length = ps.length) (h : ∀ (i : Nat) b p, bs[i]? = some b → ps[i]? = some p → H b = some (.tup (nvs p))) : NRows H bs ps := ⟨by rw [List.length_map]; exact l, fun i vs e => by
  rw [List.getElem?_map] at e
  cases ep : ps[i]? with
  | none => rw [ep] at e; cases e
  | some p =>
    rw [ep] at e
    cases e
    have hi := (List.getElem?_eq_some_iff.mp ep).1
    have eb : bs[i]? = some bs[i] := List.getElem?_eq_getElem (by omega)
    exact ⟨_, eb, h i _ _ eb ep⟩⟩
theorem NRows.rev {bs : List Addr} {ps : List (List Nat)} (t : NRows H bs ps) : NRows H bs.reverse ps.reverse := by
  have lb := NRows.len t
  refine NRows.mk (by rw [List.length_reverse, List.length_reverse, lb]) fun i b p e1 e2 => ?_
  have hi := (List.getElem?_eq_some_iff.mp e1).1
  rw [List.length_reverse] at hi
  rw [List.getElem?_reverse hi] at e1
  rw [List.getElem?_reverse (by omega), ← lb] at e2
  obtain ⟨q, e3, e4⟩ := t.get e1
  rw [e2] at e3
  cases e3
  exact e4
theorem NRows.drop {bs : List Addr} {ps : List (List Nat)} (t : NRows H bs ps) (i : Nat) : NRows H (bs.drop i) (ps.drop i) := by
  have z := TupsAt.drop t i
  rw [← List.map_drop] at z
  exact z
theorem NRows.erase {bs : List Addr} {ps : List (List Nat)} (t : NRows H bs ps) (j : Nat) : NRows H (bs.eraseIdx j) (ps.eraseIdx j) := by
  have z := TupsAt.cat (TupsAt.take t j) (TupsAt.drop t (j + 1))
  rw [← List.map_take, ← List.map_drop, ← List.map_append, ← List.eraseIdx_eq_take_drop_succ, ← List.eraseIdx_eq_take_drop_succ] at z
  exact z
/-! as data -/
abbrev rowU (p : List Nat) : PySem.W.Tup Int := ⟨niz p⟩
theorem rowU_inj {p q : List Nat} (h : rowU p = rowU q) : p = q := niz_inj (congrArg PySem.W.Tup.items h)
theorem rowU_map (ps : List (List Nat)) : ps.map rowD = (ps.map rowU).map PySem.W.Datum.toD := by
  rw [List.map_map]
  rfl
theorem hold_rows {pins : List (Addr × Obj)} {σ : L2.St} {s : Shared} (I : Inv X pins σ H s) {bs : List Addr} {ps : List (List Nat)} {its : List Value} (t : NRows H bs ps) (rv : Vals (bs.map V.ref) its) : PySem.W.HoldAll s.heap its (ps.map rowU) := by
  obtain ⟨as, hr⟩ := Dp.readsAll I _ _ _ (dp_rws (K := X.K) t) rv
  rw [rowU_map] at hr
  exact ⟨as, hr⟩
def rMinR (K : PySem.W.Frag) : List V → Hp → VK → Prop := fun vs H Q => ∃ (a : Addr) (bs : List Addr) (ps : List (List Nat)), vs = [V.ref a] ∧ SqL K H a (bs.map V.ref) ∧ NRows H bs ps ∧ ps ≠ [] ∧ ∀ b p, p ∈ ps → H b = some (.tup (nvs p)) → Q (.ref b) H
theorem cr_minR (hc : X.calm = true) (hu : X.A.units + 64 < cLine) : CallR X (.builtin "min") (rMinR X.K) := by
  intro pins s σ H vs us Q I r h
  obtain ⟨a, bs, ps, rfl, hs, t, ne, q⟩ := h
  obtain ⟨its, rv, tp, _⟩ := I.list hs
  rw [Vals.ref1 r]
  have hh := hold_rows I t rv
  have lb := NRows.len t
  have lv := rv.length
  rw [List.length_map] at lv
  cases ps with
  | nil => exact absurd rfl ne
  | cons p ps =>
    refine PySem.W.min_list_datum (I.ok.hd hc) (show s.heap.IsList a its.toArray from tp.isList) (x := rowU p) (xs := ps.map rowU) (by rw [List.toList_toArray]; exact hh) (by show X.A.units + 1 + (0 + 1) < cLine; omega) fun i v h' tk hv hh hk => ?_
    rw [List.getElem?_toArray] at hv
    have hi := (List.getElem?_eq_some_iff.mp hv).1
    have eb : bs[i]? = some bs[i] := List.getElem?_eq_getElem (by omega)
    obtain ⟨u, hu', ru⟩ := rv.get (show (bs.map V.ref)[i]? = some (.ref bs[i]) by rw [List.getElem?_map, eb]; rfl)
    rw [hv] at hu'
    cases hu'
    obtain ⟨p', e1, e2⟩ := t.get eb
    exact ⟨.ref bs[i], H, I.kept hk, ru, q _ _ (List.mem_of_getElem? e1) e2⟩
theorem rd_minR {a : Addr} {bs : List Addr} {ps : List (List Nat)} (h : H a = some (.lst (bs.map V.ref))) (t : NRows H bs ps) (ne : ps ≠ []) (q : ∀ b p, p ∈ ps → H b = some (.tup (nvs p)) → Q (.ref b) H) : rMinR K [.ref a] H Q := ⟨a, bs, ps, rfl, SqL.of h, t, ne, q⟩
/-! xs.remove(row) -/
theorem first_row {α : Type} [BEq α] [LawfulBEq α] : ∀ {ps : List α} {r : α}, r ∈ ps → ∃ j, j < ps.length ∧ ps[j]? = some r ∧ (∀ i, i < j → ps[i]? ≠ some r) ∧ ps.eraseIdx j = ps.erase r
  | [], _, h => absurd h List.not_mem_nil
  | x :: ps, r, h => by
    rcases Classical.em (x = r) with z | z
    · subst z
      exact ⟨0, Nat.succ_pos _, rfl, fun i h => absurd h (Nat.not_lt_zero i), by rw [List.erase_cons_head]; rfl⟩
    · obtain ⟨j, h1, h2, h3, h4⟩ := first_row (ps := ps) ((List.mem_cons.mp h).resolve_left fun e => z e.symm)
      refine ⟨j + 1, Nat.succ_lt_succ h1, h2, fun i hi => ?_, ?_⟩
      · cases i with
        | zero => exact fun e => z (Option.some.inj e)
        | succ i => exact h3 i (by omega)
      · rw [List.erase_cons_tail (by simpa using z), ← h4]
        rfl
def rRemR : V → List V → Hp → VK → Prop := fun x xs H Q => ∃ (l a : Addr) (bs : List Addr) (ps : List (List Nat)) (r : List Nat), x = .ref l ∧ xs = [.ref a] ∧ H l = some (.lst (bs.map V.ref)) ∧ NRows H bs ps ∧ H a = some (.tup (nvs r)) ∧ r ∈ ps ∧
  ∀ cs, NRows H cs (ps.erase r) → Q .non (upd H l (.lst (cs.map V.ref)))
theorem mt_remR (hu : X.A.units + 64 < cLine) : MtM X "list.remove" rRemR := by
  intro pins s σ H x xs v us Q I rx rxs h
  obtain ⟨l, a, bs, ps, r, rfl, rfl, hH, t, ha, hr, q⟩ := h
  cases rx
  obtain ⟨u, rfl, ru⟩ := rxs.one
  cases ru
  obtain ⟨z, its, n, rv, hl, e⟩ := I.lstM hH
  rw [List.length_map] at hl z
  have hh := hold_rows I t rv
  obtain ⟨bx, hx⟩ := Dp.reads I (rowD r) (.ref a) (.ref a) (.tup (SqT.of ha) (dp_ints (niz r))) rfl
  obtain ⟨j, j1, j2, j3, j4⟩ := first_row hr
  have lb := NRows.len t
  refine PySem.W.remove_list_datum (j := j) (xs := ps.map rowU) (x := rowU r) (show s.heap.IsList l its.toArray from ⟨_, e, rfl, _, rfl⟩) (by rw [List.toList_toArray]; exact hh) ⟨bx, hx⟩ (by show X.A.units + 1 + (0 + 1) < cLine; omega) (by rw [List.getElem?_map, j2]; rfl)
    (fun m hm w => j3 m hm ?_) (by rw [List.size_toArray]; omega) ?_
  · rw [List.getElem?_map] at w
    cases ep : ps[m]? with
    | none => rw [ep] at w; cases w
    | some p =>
      rw [ep] at w
      rw [rowU_inj (Option.some.inj w)]
  · have rr := rv.eraseIdx j
    have em : (bs.map V.ref).eraseIdx j = (bs.eraseIdx j).map V.ref := by
      rw [List.eraseIdx_eq_take_drop_succ, List.eraseIdx_eq_take_drop_succ, List.map_append, List.map_take, List.map_drop]
    rw [em] at rr
    have qq := q (bs.eraseIdx j) (by rw [← j4]; exact t.erase j)
    refine ⟨.non, _, I.lset (its' := its.eraseIdx j) hH e ?_ rr ?_, rfl, qq⟩
    · show its.toArray.eraseIdxIfInBounds j = (its.eraseIdx j).toArray
      rw [List.eraseIdxIfInBounds_toArray]
    · rw [List.length_map]
      have := List.length_eraseIdx_le bs j
      omega
theorem rd_remR {l a : Addr} {bs : List Addr} {ps : List (List Nat)} {r : List Nat} (h : H l = some (.lst (bs.map V.ref))) (t : NRows H bs ps) (ha : H a = some (.tup (nvs r))) (m : r ∈ ps) (q : ∀ cs, NRows H cs (ps.erase r) → Q .non (upd H l (.lst (cs.map V.ref)))) : rRemR (.ref l) [.ref a] H Q := ⟨l, a, bs, ps, r, rfl, rfl, h, t, ha, m, q⟩
/-! row in rows -/
theorem any_rows {ps : List (List Nat)} {r : List Nat} : ((ps.map rowD).any fun z => PyData.eqv z (rowD r)) = decide (r ∈ ps) := by
  rw [Bool.eq_iff_iff, List.any_eq_true, decide_eq_true_eq]
  constructor
  · rintro ⟨d, hd, e⟩
    obtain ⟨x, hx, rfl⟩ := List.mem_map.mp hd
    unfold rowD at e
    rw [eqv_intsT, decide_eq_true_eq] at e
    rw [← niz_inj e]
    exact hx
  · intro m
    exact ⟨rowD r, List.mem_map.mpr ⟨r, m, rfl⟩, by unfold rowD; rw [eqv_intsT]; exact decide_eq_true rfl⟩
theorem sh_row (p : List Nat) : Sh 1 (rowD p) := Sh.tuple fun d hd => by
  obtain ⟨x, _, rfl⟩ := List.mem_map.mp hd
  exact Sh.int x
theorem rd_inR {p l : Addr} {bs : List Addr} {ps : List (List Nat)} {r : List Nat} (h : H p = some (.tup (nvs r))) (hl : H l = some (.lst (bs.map V.ref))) (t : NRows H bs ps) (q : Q (.bl (decide (r ∈ ps))) H) : rInD K (.ref p) (.ref l) H Q := by
  refine ⟨rowD r, ps.map rowD, .tup (SqT.of h) (dp_ints (niz r)), .lst (SqL.of hl) (dp_rws t), ?_, (sh_rows ps).shaped (by decide), ?_⟩
  · exact (sh_row r).shaped (by decide)
  · rw [any_rows]
    exact q
/-! sorted(rows), rows that ascend already -/
end
theorem nvs_flat2 : ∀ rs : List (List Nat), (rs.map nvs).flatten = nvs rs.flatten
  | [] => rfl
  | p :: r => by rw [List.map_cons, List.flatten_cons, List.flatten_cons, nvs_app, nvs_flat2 r]
theorem Prs.app {H : Hp} {a b : List Addr} {x y : List (Nat × Nat)} (t : Prs H a x) (u : Prs H b y) : Prs H (a ++ b) (x ++ y) := by
  unfold Prs
  rw [List.map_append]
  exact TupsAt.cat t u
theorem Prs.same {H H' : Hp} {a : List Addr} {x : List (Nat × Nat)} (t : Prs H a x) (S : Same H H') : Prs H' a x := TupsAt.same S t
/-- where the looks differ -/
def cdf (es fs : List Int) (n : Nat) : List Nat := (List.range n).filter fun b => !decide ((codes es).getD b 0 = (codes fs).getD b 0)
theorem cdf_len (es fs : List Int) (n : Nat) : (cdf es fs n).length ≤ n := by
  have := List.length_filter_le (fun b => !decide ((codes es).getD b 0 = (codes fs).getD b 0)) (List.range n)
  rw [List.length_range] at this
  exact this
theorem cdf_next (es fs : List Int) (i : Nat) : cdf es fs (i + 1) = cdf es fs i ++ if (codes es).getD i 0 = (codes fs).getD i 0 then [] else [i] := by
  unfold cdf
  rw [fr_next]
  congr 1
  by_cases z : (codes es).getD i 0 = (codes fs).getD i 0
  · rw [if_pos z, decide_eq_true z]; rfl
  · rw [if_neg z, decide_eq_false z]; rfl
theorem mem_cdf {es fs : List Int} {n b : Nat} : b ∈ cdf es fs n ↔ b < n ∧ (codes es).getD b 0 ≠ (codes fs).getD b 0 := by
  unfold cdf
  rw [List.mem_filter, List.mem_range, Bool.not_eq_true', decide_eq_false_iff_not]
theorem rngs_len {es fs : List Int} (R : Ren es fs) {x : List Nat} (h : x ∈ rngs es fs) : x.length ≤ es.length := by
  unfold rngs at h
  obtain ⟨b, hb, rfl⟩ := List.mem_map.mp h
  obtain ⟨P, _⟩ := fo_p R (mem_tops.mp hb).1
  exact P.len
end Rv
/-! the moves of a plan: what is known when they are made -/
namespace Rv
open PySem PySem.Spec PyProof.Rows L2 RL RQ RV
def emI (es : List Int) (n : Nat) : List Nat := (List.range n).filter fun b => decide (es.getD b 0 = -1)
theorem emI_len (es : List Int) (n : Nat) : (emI es n).length ≤ n := by
  have := List.length_filter_le (fun b => decide (es.getD b 0 = -1)) (List.range n)
  rw [List.length_range] at this
  exact this
theorem emI_next (es : List Int) (i : Nat) : emI es (i + 1) = emI es i ++ if es.getD i 0 = -1 then [i] else [] := by
  unfold emI
  rw [fr_next]
  congr 1
  by_cases z : es.getD i 0 = -1
  · rw [if_pos z, decide_eq_true z]; rfl
  · rw [if_neg z, decide_eq_false z]; rfl
theorem mem_emI {es : List Int} {n b : Nat} : b ∈ emI es n ↔ b < n ∧ es.getD b 0 = -1 := by
  unfold emI
  rw [List.mem_filter, List.mem_range, decide_eq_true_eq]
theorem emI_count (es : List Int) : (emI es es.length).length = es.count (-1) := by
  have e : es = (List.range es.length).map (es.getD · 0) := List.ext_getElem (by rw [List.length_map, List.length_range]) fun i h1 h2 => by
    rw [List.getElem_map, List.getElem_range, getD_get h1]
  have h : (emI es es.length).length = ((List.range es.length).map (es.getD · 0)).count (-1) := by
    unfold emI List.count
    rw [List.countP_map, List.countP_eq_length_filter]
    congr 1
  rw [← e] at h
  exact h
theorem emI_nd (es : List Int) (n : Nat) : (emI es n).Nodup := nd_range n _
theorem other_of {l : List Nat} (nd : l.Nodup) (h : 2 ≤ l.length) (w : Nat) : ∃ x ∈ l, x ≠ w := by
  match l, nd, h with
  | x :: y :: r, nd, _ =>
    by_cases e : x = w
    · refine ⟨y, List.mem_cons_of_mem _ (List.mem_cons_self ..), fun k => ?_⟩
      rw [List.nodup_cons] at nd
      exact nd.1 (by rw [e, ← k]; exact List.mem_cons_self ..)
    · exact ⟨x, List.mem_cons_self .., e⟩
theorem spare_of {es fs : List Int} (m : (-1 : Int) ∈ es) (nc : ¬ crowd es fs) (ne : rngs es fs ≠ []) (w : Nat) : ∃ x ∈ emI es es.length, x ≠ w := by
  refine other_of (emI_nd _ _) ?_ w
  rw [emI_count]
  have h1 : 0 < es.count (-1) := List.count_pos_iff.mpr m
  have h2 : es.count (-1) ≠ 1 := fun e => nc ⟨e, ne⟩
  omega
structure MvOk (es fs : List Int) (w0 : List Nat) (cs rs : List (List Nat)) : Prop where
  w1 : w0 ≠ []
  w2 : w0.length ≤ 14
  c1 : ∀ c ∈ cs, c ≠ [] ∧ c.length ≤ 12
  c2 : cs.length ≤ 12
  r1 : ∀ r ∈ rs, r ≠ []
  r2 : rs.flatten.length ≤ 12
  r3 : rs.length ≤ 12
  p1 : rs = [] → Planned es fs (along w0 ++ cs.flatMap along)
  p2 : rs ≠ [] → (∃ x ∈ emI es es.length, x ≠ w0.getD 0 0) ∧ ∀ sp, sp < es.length → es.getD sp 0 = -1 → sp ≠ w0.getD 0 0 → Planned es fs (around_moves rs sp (along w0) ++ cs.flatMap along)
theorem rngs_few {es fs : List Int} : (rngs es fs).length ≤ es.length := by
  have := List.length_filter_le (fun b => decide (IsR (G es fs) (Fo es fs b))) (List.range es.length)
  rw [List.length_range] at this
  unfold rngs tops
  rw [List.length_map]
  exact this
theorem chns_few {es fs : List Int} : (chns es fs).length ≤ es.length := by
  have := List.length_filter_le (fun b => decide (Ch es fs b)) (List.range es.length)
  rw [List.length_range] at this
  unfold chns starts
  rw [List.length_map]
  exact this
theorem disj_right : ∀ {a b : List (List Nat)}, Disj (a ++ b) → Disj b := fun h => (List.pairwise_append.mp h).2.1
theorem rngs_flat {es fs : List Int} (R : Ren es fs) (Re : Rg es) : (rngs es fs).flatten.length ≤ es.length := by
  have S := rows_of R Re
  refine nd_len _ _ (flat_nodup (fun r hr => (S.cy r hr).nd) (disj_right S.dj)) fun x hx => ?_
  obtain ⟨r, hr, hx⟩ := List.mem_flatten.mp hx
  exact (S.cy r hr).lt x hx
theorem nd_few {p : List Nat} {n : Nat} (nd : p.Nodup) (lt : ∀ z ∈ p, z < n) : p.length ≤ n := nd_len n p nd lt
theorem MvOk.chain {es fs : List Int} (R : Ren es fs) (I : Img es) (m : (-1 : Int) ∈ es) (nc : ¬ crowd es fs) {c0 : List Nat} {cs : List (List Nat)} (hc : chns es fs = c0 :: cs) : MvOk es fs c0 cs (rngs es fs) := by
  have Re := I.2.2
  have e12 := I.2.1
  have S := rows_of R Re
  have ch : ∀ c ∈ c0 :: cs, c ≠ [] ∧ c.length ≤ es.length := fun c h => by
    have C := S.ch c (by rw [hc]; exact h)
    obtain ⟨x, y, r, e, _⟩ := C.sh
    exact ⟨by rw [e]; simp, nd_few C.nd C.lt⟩
  have lc := chns_few (es := es) (fs := fs)
  rw [hc, List.length_cons] at lc
  have h0 := ch c0 (List.mem_cons_self ..)
  have rf := rngs_flat R Re
  have rw2 := rngs_few (es := es) (fs := fs)
  exact ⟨h0.1, by omega, fun c h => ⟨(ch c (List.mem_cons_of_mem _ h)).1, by have := (ch c (List.mem_cons_of_mem _ h)).2; omega⟩, by omega, fun r hr => (S.cy r hr).ne, by omega, by omega,
    fun e => by have z := planned_chains R Re e; rw [hc] at z; exact z,
    fun ne => ⟨spare_of m nc ne _, fun sp h1 h2 h3 => planned_around R Re hc ne h1 h2 h3⟩⟩
theorem MvOk.ring {es fs : List Int} (R : Ren es fs) (I : Img es) (J : Img fs) (m : (-1 : Int) ∈ es) (nc : ¬ crowd es fs) {r0 : List Nat} {e0 : Nat} (hc : chns es fs = []) (m0 : r0 ∈ rngs es fs) (le0 : e0 < es.length) (he0 : es.getD e0 0 = -1)
    (rec : ∃ b ∈ r0, (codes es).getD b 0 ≠ (codes fs).getD b 0) : MvOk es fs (e0 :: r0 ++ [e0]) [] ((rngs es fs).erase r0) := by
  have Re := I.2.2
  have e12 := I.2.1
  have S := rows_of R Re
  have rf := rngs_flat R Re
  have rw2 := rngs_few (es := es) (fs := fs)
  have C := S.cy r0 m0
  have l0 := nd_few C.nd C.lt
  have sub : ∀ r ∈ (rngs es fs).erase r0, r ∈ rngs es fs := fun r h => List.mem_of_mem_erase h
  have es0 := erase_sum m0
  refine ⟨by simp, by simp; omega, fun c h => absurd h List.not_mem_nil, by simp, fun r hr => (S.cy r (sub r hr)).ne, ?_, by omega, fun e => ?_, fun ne => ?_⟩
  · rw [List.length_flatten] at *
    omega
  · rw [List.flatMap_nil, List.append_nil]
    exact planned_ring R Re J.2.2 hc m0 e le0 he0 rec
  · refine ⟨spare_of m nc (List.ne_nil_of_mem m0) _, fun sp h1 h2 h3 => ?_⟩
    rw [List.flatMap_nil, List.append_nil]
    exact planned_rings R Re J.2.2 hc m0 ne le0 he0 rec h1 h2 h3
theorem vdt0 {es fs : List Int} (z : vdt es fs = 0) (e0 : es ≠ fs) : (-1 : Int) ∈ es ∧ codes es ≠ codes fs ∧ ¬ crowd es fs := by
  unfold vdt at z
  rw [if_neg e0] at z
  by_cases h1 : -1 ∉ es
  · rw [if_pos h1] at z; cases z
  rw [if_neg h1] at z
  by_cases h2 : codes es = codes fs
  · rw [if_pos h2] at z; cases z
  rw [if_neg h2] at z
  by_cases h3 : ¬ crowd es fs
  · exact ⟨Classical.not_not.mp h1, h2, h3⟩
  rw [if_neg h3] at z
  by_cases h4 : mono es
  · rw [if_pos h4] at z; cases z
  · rw [if_neg h4] at z; cases z
end Rv
/-! reasons compared; what the law asks -/
namespace Rv
open PySem PySem.Spec PyProof.Rows L2 RL RQ RV
abbrev sFull : Str := Str.ofString "full"
abbrev sAlike : Str := Str.ofString "alike"
abbrev sRings : Str := Str.ofString "rings"
def rsnD (k : Nat) (rs : List (List Nat)) : PyData := if k = 1 then .tuple [.str sFull] else if k = 2 then .tuple [.str sAlike] else .tuple [.str sRings, .tuple (rs.map rowD)]
section
variable {K : PySem.W.Frag} {H : Hp} {Q : VK} {es fs : List Int} {p t : Addr} {k : Nat}
theorem rsn_dp (h : RsnAt H p k es fs) : Dp K H (.ref p) (rsnD k (rngs es fs)) := by
  rcases h with ⟨rfl, h⟩ | ⟨rfl, h⟩ | ⟨rfl, t, bs, h1, h2, h3⟩
  · exact .tup (SqT.of h) (.cons (.str _) .nil)
  · exact .tup (SqT.of h) (.cons (.str _) .nil)
  · exact .tup (SqT.of h1) (.cons (.str _) (.cons (.tup (SqT.of h2) (dp_rws h3)) .nil))
theorem sh_one {k : Nat} {s : Str} (h : PyData.strOk s = true) : Sh (k + 1) (.tuple [.str s]) := Sh.tuple fun d hd => by rw [List.mem_singleton.mp hd]; exact Sh.str h
theorem rsn_sh (k : Nat) (rs : List (List Nat)) : Sh 3 (rsnD k rs) := by
  unfold rsnD
  split
  · exact sh_one (by decide +kernel)
  · split
    · exact sh_one (by decide +kernel)
    · refine Sh.tuple fun d hd => ?_
      simp only [List.mem_cons, List.not_mem_nil, or_false] at hd
      rcases hd with rfl | rfl
      · exact Sh.str (by decide +kernel)
      · exact Sh.tuple fun d hd => by
          obtain ⟨p, _, rfl⟩ := List.mem_map.mp hd
          exact sh_row p
theorem rsn_eqv1 (k : Nat) (rs : List (List Nat)) : PyData.eqv (rsnD k rs) (.tuple [.str sFull]) = decide (k = 1) := by
  unfold rsnD
  by_cases a : k = 1
  · rw [if_pos a, decide_eq_true a]; decide
  · rw [if_neg a, decide_eq_false a]
    by_cases b : k = 2
    · rw [if_pos b]; decide
    · rw [if_neg b]
      simp [PyData.eqv, PyData.eqvAll]
theorem rsn_eqv2 (k : Nat) (rs : List (List Nat)) : PyData.eqv (rsnD k rs) (.tuple [.str sAlike]) = decide (k = 2) := by
  unfold rsnD
  by_cases a : k = 1
  · rw [if_pos a, decide_eq_false (by omega)]; decide
  · rw [if_neg a]
    by_cases b : k = 2
    · rw [if_pos b, decide_eq_true b]; decide
    · rw [if_neg b, decide_eq_false b]
      simp [PyData.eqv, PyData.eqvAll]
theorem rd_eqFull (h : RsnAt H p k es fs) (h2 : H t = some (.tup [.str sFull])) (q : Q (.bl (decide (k = 1))) H) : rEqD K (.ref p) (.ref t) H Q :=
  ⟨_, _, rsn_dp h, .tup (SqT.of h2) (.cons (.str _) .nil), (rsn_sh _ _).shaped (by decide), (sh_one (k := 0) (by decide +kernel)).shaped (by decide), by rw [rsn_eqv1]; exact q⟩
theorem rd_eqAlike (h : RsnAt H p k es fs) (h2 : H t = some (.tup [.str sAlike])) (q : Q (.bl (decide (k = 2))) H) : rEqD K (.ref p) (.ref t) H Q :=
  ⟨_, _, rsn_dp h, .tup (SqT.of h2) (.cons (.str _) .nil), (rsn_sh _ _).shaped (by decide), (sh_one (k := 0) (by decide +kernel)).shaped (by decide), by rw [rsn_eqv2]; exact q⟩
theorem RsnAt.kind (h : RsnAt H p k es fs) : ∃ xs, H p = some (.tup xs) := by
  rcases h with ⟨_, h⟩ | ⟨_, h⟩ | ⟨_, t, bs, h, _⟩ <;> exact ⟨_, h⟩
end
theorem units65w {k : Nat} {A : Around} (r : Room k A) : A.units + 65 < cLine := by have := r.un; omega
theorem vdt_ne {es fs : List Int} (h : vdt es fs ≠ 0) : es ≠ fs := fun e => h (if_pos e)
theorem vdt3 {es fs : List Int} (h : vdt es fs = 3) : crowd es fs ∧ mono es := by
  unfold vdt at h
  by_cases e : es = fs
  · rw [if_pos e] at h; cases h
  rw [if_neg e] at h
  by_cases e1 : -1 ∉ es
  · rw [if_pos e1] at h; cases h
  rw [if_neg e1] at h
  by_cases e2 : codes es = codes fs
  · rw [if_pos e2] at h; cases h
  rw [if_neg e2] at h
  by_cases e3 : ¬ crowd es fs
  · rw [if_pos e3] at h; cases h
  rw [if_neg e3] at h
  by_cases e4 : mono es
  · exact ⟨Classical.not_not.mp e3, e4⟩
  · rw [if_neg e4] at h; cases h
abbrev wObs : Str := Str.ofString "obstacle"
abbrev wPlan : Str := Str.ofString "plan"
abbrev wFew : Str := Str.ofString "fewest"
def Word (s : Str) : Prop := s = wObs ∨ s = wPlan ∨ s = wFew
/-- what is asked of a pair that is right -/
structure AskQ (H : Hp) (Q : VK) (s : Str) (es fs : List Int) : Prop where
  w : Word s
  g0 : vdt es fs = 0 → (s = wObs → ∀ H' l, Same H H' → H' l = some (.lst [.int 0, .non]) → Q (.ref l) H') ∧
    (s = wPlan → ∀ H' l p ps ms, Same H H' → H' l = some (.lst [.int 0, .ref p]) → H' p = some (.lst (ps.map V.ref)) → TupsAt H' ps (rows (stairL es ms)) → Planned es fs ms → Q (.ref l) H') ∧
    (s = wFew → ∀ H' l, Same H H' → H' l = some (.lst [.int 0, .int (((mvA es fs es.length).length + (rngs es fs).length : Nat) : Int)]) → Q (.ref l) H')
  g1 : ∀ k, vdt es fs = k → k ≠ 0 → k ≠ 4 → ∀ H' l p, Same H H' → H' l = some (.lst [.int (if s = wObs then 0 else 1), .ref p]) → RsnAt H' p k es fs → Q (.ref l) H'
  g4 : vdt es fs = 4 → ∀ H' l t bs, Same H H' → H' l = some (.lst [.int 2, .ref t]) → H' t = some (.tup (bs.map V.ref)) → NRows H' bs (rngs es fs) → Q (.ref l) H'
end Rv
/-! the image between: one chain leads to it, chains alone lead from it (k41) -/
namespace Rv
open PySem PySem.Spec PyProof.Rows L2 RL RQ RV
section
variable {es fs : List Int}
end
end Rv
/-! plans one after another, and lines that are executed again (k41) -/
namespace Rv
open PySem PySem.Spec PyProof.Rows L2 RL RQ RV
/-- a script of a plan -/
def Scr (H : Hp) (s : Addr) (g g' : List Int) : Prop := ∃ (ps : List Addr) (ms : List (Nat × Nat)), H s = some (.lst (ps.map V.ref)) ∧ TupsAt H ps (rows (stairL g ms)) ∧ Planned g g' ms ∧ Ren g g' ∧ Img g
/-- plans one after another -/
structure Pls (H : Hp) (ss : List Addr) (gs : List (List Int)) (es fs : List Int) : Prop where
  len : gs.length = ss.length + 1
  hd : gs[0]? = some es
  lt : gs[ss.length]? = some fs
  sc : ∀ (i : Nat) s g g', ss[i]? = some s → gs[i]? = some g → gs[i + 1]? = some g' → Scr H s g g'
  im : ∀ g ∈ gs, Img g ∧ g.length = es.length
/-- what plans does -/
structure PlnQ (K : PySem.W.Frag) (H : Hp) (Q : VK) (E : XK) (es fs : List Int) : Prop where
  n : es ≠ fs → (-1 : Int) ∉ es → ∀ H' d p, Same H H' → H' d = some (.xd [("reason", .ref p)]) → H' p = some (.tup [.str sFull]) → E (.ref (atTop K "NoPlan")) (some d) H'
  y : (es = fs ∨ (-1 : Int) ∈ es) → ∀ H' l ss gs, Same H H' → H' l = some (.lst (ss.map V.ref)) → Pls H' ss gs es fs → ss.length = (if es = fs then 0 else if vdt es fs = 0 then 1 else 2) → Q (.ref l) H'
end Rv
/-! scripts of a plan under crashes (k41) -/
namespace Rv
open PySem PySem.Spec PyProof.Rows L2 RL RQ RV
section
variable {H H' : Hp} {n w pos : Nat} {gf : Nat → List Int} {mf : Nat → List (Nat × Nat)} {x : Addr}
end
/-- what is asked of a pair that is right -/
structure AskP (H : Hp) (Q : VK) (es fs : List Int) : Prop where
  n : es ≠ fs → (-1 : Int) ∉ es → ∀ H' l p, Same H H' → H' l = some (.lst [.int 1, .ref p]) → H' p = some (.tup [.str sFull]) → Q (.ref l) H'
  y : (es = fs ∨ (-1 : Int) ∈ es) → ∀ H' l m ss gs, Same H H' → H' l = some (.lst [.int 0, .ref m]) → H' m = some (.lst (ss.map V.ref)) → Pls H' ss gs es fs → ss.length = (if es = fs then 0 else if vdt es fs = 0 then 1 else 2) → Q (.ref l) H'
end Rv
/-! for k76: both directions of a rename pair -/
namespace Rv
open PySem PySem.Spec PyProof.Rows L2 RL RQ RV Rv
def iEnP (ta : TA) : TI := fun σ H R => ta σ H fun vs H1 => ∃ (a : Addr) (es : List Int), vs = [.ref a] ∧ TG H1 a es ∧ ∀ G : Hp → Prop, (∀ H2, (∀ o, H1 a = some o → H2 a = some o) → G H2) → R (Jen (es.map V.int).length G (fun i => (es.map V.int)[i]?)) H1
theorem pi_enP {X : Cx} {e : Expr} {ta : TA} {p pos tpos : Pos} {elts : List Expr} {kk : Nat} (hg : Gl X "enumerate") (hm : X.mg "enumerate" = none) (ha : PA X [e] ta) (hs : starEach [e] X.env = [(false, eval e X.env)] := by rfl) :
    PI X (.Tuple elts kk tpos) (.Call (.Name "enumerate" p) [e] [] pos) (iEnP ta) := by
  refine ⟨fun pins s σ H R I h => Call_ (ld_blt I hg hm boot_enumerate (PyProof.Rows.callWith_type1 (thn (ha.run pos pins s σ H _ I h) fun us s1 q0 => ?_) hs rfl))⟩
  obtain ⟨vs, H1, I1, r1, a, es, rfl, hT, q⟩ := q0
  cases r1 with
  | cons r rr =>
    cases rr
    cases r
    obtain ⟨its, rv, hI, _⟩ := I1.tuple (show SqT X.K H1 a (es.map V.int) from hT.sq)
    refine enum1 (begins_tuple a its.toArray) hI fun h' he ho hk => wpAny_pyIter_enum he ?_
    have I2 : Inv X pins σ H1 { s1 with heap := h' } := I1.kept (t' := s1.toks) hk
    have fin : ∀ b ∈ [s1.heap.objs.size + 1, s1.heap.objs.size], FpOk X pins H1 b := fun b hb => by
      have le : s1.heap.objs.size ≤ b := by
        rcases List.mem_cons.mp hb with z | z
        · rw [z]; exact Nat.le_succ _
        · rw [show b = s1.heap.objs.size by simpa using z]; exact Nat.le_refl _
      exact I1.fpOk le (I1.hok.fresh le)
    rcases hT with hT | ⟨o, hT, _⟩
    · exact ⟨s1.heap.objs.size + 1, [s1.heap.objs.size + 1, s1.heap.objs.size], _, _, H1, rfl, I2, turn_jen (feed_tup s1.heap.objs.size a (es.map V.int)) (Nat.succ_ne_self _), ⟨⟨.none, he⟩, ⟨_, ho, rfl, rfl⟩⟩, fin, q _ fun H2 S => S _ hT⟩
    · exact ⟨s1.heap.objs.size + 1, [s1.heap.objs.size + 1, s1.heap.objs.size], _, _, H1, rfl, I2, turn_jen (feed_tupG s1.heap.objs.size a o (es.map V.int)) (Nat.succ_ne_self _), ⟨⟨.none, he⟩, ⟨_, ho, rfl, rfl⟩⟩, fin, q _ fun H2 S => S _ hT⟩
theorem rd_iEnP {ta : TA} {σ : L2.St} {R : It → Hp → Prop} {H : Hp} (q : ta σ H fun vs H1 => ∃ (a : Addr) (es : List Int), vs = [.ref a] ∧ TG H1 a es ∧ ∀ G : Hp → Prop, (∀ H2, (∀ o, H1 a = some o → H2 a = some o) → G H2) → R (Jen (es.map V.int).length G (fun i => (es.map V.int)[i]?)) H1) : iEnP ta σ H R := q
theorem TG.kp {H1 H2 H' : Hp} {b : Addr} {fs : List Int} (t : TG H1 b fs) (S : Same H1 H2) (S' : Same H1 H') : ∀ o, H2 b = some o → H' b = some o := fun o e => by
  rcases t with h | ⟨u, h, _⟩
  · rw [S _ _ h] at e
    cases e
    exact S' _ _ h
  · rw [S _ _ h] at e
    cases e
    exact S' _ _ h
theorem ers_map : ∀ (l : List Int) (d : Nat), (l.map V.int).eraseIdx d = (l.eraseIdx d).map V.int
  | [], _ => rfl
  | _ :: _, 0 => rfl
  | x :: l, d + 1 => congrArg (V.int x :: ·) (ers_map l d)
theorem ers_perm : ∀ {l : List Int} {d : Nat} (h : d < l.length), (l[d] :: l.eraseIdx d).Perm l
  | [], _, h => absurd h (Nat.not_lt_zero _)
  | _ :: _, 0, _ => List.Perm.refl _
  | x :: l, d + 1, h => (List.Perm.swap x _ _).trans ((ers_perm (l := l) (d := d) (Nat.lt_of_succ_lt_succ h)).cons x)
theorem c100_step {v : Int} (h0 : 0 ≤ v) (h1 : v ≤ 999) : (v.fmod 100 = 99 → v.fdiv 100 * 100 + (v + 1).fmod 100 = v - 99) ∧ (v.fmod 100 ≠ 99 → v.fdiv 100 * 100 + (v + 1).fmod 100 = v + 1) := by
  rw [Int.fmod_eq_emod_of_nonneg _ (by decide), Int.fmod_eq_emod_of_nonneg _ (by decide), Int.fdiv_eq_ediv_of_nonneg _ (by decide)]
  constructor <;> intro h <;> omega
/-- the values that move, told by the first image -/
def mvC (es fs : List Int) (n : Nat) : List Int := ((List.range n).filter fun b => decide (es.getD b 0 ≠ -1 ∧ es.getD b 0 ≠ fs.getD b 0)).map (es.getD · 0)
theorem mvC_len (es fs : List Int) (n : Nat) : (mvC es fs n).length ≤ n := by
  have := List.length_filter_le (fun b => decide (es.getD b 0 ≠ -1 ∧ es.getD b 0 ≠ fs.getD b 0)) (List.range n)
  rw [List.length_range] at this
  unfold mvC
  rw [List.length_map]
  exact this
theorem mvC_next {es fs : List Int} {i : Nat} : mvC es fs (i + 1) = mvC es fs i ++ if es.getD i 0 ≠ -1 ∧ es.getD i 0 ≠ fs.getD i 0 then [es.getD i 0] else [] := by
  unfold mvC
  rw [List.range_succ, List.filter_append, List.map_append]
  congr 1
  by_cases z : es.getD i 0 ≠ -1 ∧ es.getD i 0 ≠ fs.getD i 0
  · rw [if_pos z, List.filter_cons_of_pos (by exact decide_eq_true z)]; rfl
  · rw [if_neg z, List.filter_cons_of_neg (by rw [decide_eq_false z]; decide)]; rfl
theorem mvC_B {es fs : List Int} (R : Ren es fs) : mvC es fs es.length = mvB es fs es.length := by
  unfold mvC mvB
  congr 1
  refine List.filter_congr fun b hb => ?_
  have hb := List.mem_range.mp hb
  by_cases z : es.getD b 0 = -1
  · rw [decide_eq_true z, decide_eq_false (fun w => w.1 z)]; rfl
  · rw [decide_eq_false z]
    have me := mem_at hb
    have ie := at_idx me
    have mf : es.getD b 0 ∈ fs := R.pm.mem_iff.mp me
    have i2 := at_idx mf
    have e1 : es.idxOf (es.getD b 0) = b := R.inj ie.1 hb ie.2 (by rw [ie.2]; exact z)
    by_cases y : es.getD b 0 = fs.getD b 0
    · have e2 : fs.idxOf (es.getD b 0) = b := R.injF (by rw [R.len]; exact i2.1) hb (i2.2.trans y) (by rw [i2.2]; exact z)
      rw [decide_eq_false (fun w => w.2 y), decide_eq_true (e1.trans e2.symm)]
      rfl
    · rw [decide_eq_true ⟨z, y⟩, decide_eq_false (fun w => y (by rw [← e1.symm.trans w] at i2; exact i2.2.symm))]
      rfl
theorem mvC_perm {es fs : List Int} (R : Ren es fs) : (mvC es fs es.length).Perm (mvA es fs es.length) := by
  rw [mvC_B R]
  exact (mv_perm R).symm
theorem digit_mem {k : Nat} (h : k < 10) : 48 + k ∈ (Str.ofString "0123456789").cps.toList := by
  have e : (Str.ofString "0123456789").cps.toList = [48, 49, 50, 51, 52, 53, 54, 55, 56, 57] := by decide +kernel
  rw [e]
  simp
  omega
theorem rd_intD {k : Nat} {H : Hp} {Q : VK} (h : k < 10) (q : Q (.int (k : Int)) H) : rIntZ [.str ⟨#[48 + k]⟩] H Q := by
  have e : ∀ k, k < 10 → TL.numL k = [48 + k] := by decide +kernel
  have e2 : (⟨#[48 + k]⟩ : Str) = txt (TL.numL k) := by rw [e k h]; rfl
  rw [e2]
  exact rd_intN (by omega) q
end Rv
/-! for k76: the rings of a pair and of the reverse pair -/
namespace RZ2
open PySem PySem.Spec PyProof.Rows L2 RL RQ RV Rv
section
variable {es fs : List Int}
theorem whole_end (R : Ren es fs) {b : Nat} (hb : b < es.length) (l : 1 < (Fo es fs b).length) (w : ∀ x ∈ Fo es fs b, fs.getD x 0 ≠ -1) : G es fs ((Fo es fs b).getLastD 0) = b := by
  obtain ⟨P, _⟩ := fo_p R hb
  rcases fo_end R hb with h | ⟨h, _⟩ | ⟨_, h, _⟩
  · exact absurd h (w _ (last_mem P.ne))
  · rw [h] at l; simp at l
  · exact h
theorem ring_whole (R : Ren es fs) {b : Nat} (hb : b < es.length) (r : IsR (G es fs) (Fo es fs b)) : ∀ x ∈ Fo es fs b, fs.getD x 0 ≠ -1 := fun x hx => by
  obtain ⟨P, _⟩ := fo_p R hb
  obtain ⟨i, hi⟩ := List.getElem?_of_mem hx
  have li := (List.getElem?_eq_some_iff.mp hi).1
  by_cases c : i + 1 < (Fo es fs b).length
  · exact (way_ar R P hi (List.getElem?_eq_getElem c)).fu
  · have e := last_at P.ne
    rw [show (Fo es fs b).length - 1 = i by omega, hi] at e
    cases e
    exact (rg_end R hb r).2.1
theorem top_swap (R : Ren es fs) {b : Nat} (h : b ∈ tops es fs es.length) : b ∈ tops fs es fs.length := by
  rw [mem_tops] at *
  obtain ⟨hb, r⟩ := h
  have hb2 : b < fs.length := by rw [← R.len]; exact hb
  have R2 := R.swap
  obtain ⟨P, _⟩ := fo_p R hb
  obtain ⟨P2, _⟩ := fo_p R2 hb2
  have hd := P.headD
  have bin : b ∈ Fo es fs b := List.mem_of_getElem? P.hd
  have b2 : b ∈ Fo fs es b := List.mem_of_getElem? P2.hd
  have C := cl_rg R hb r
  have sub : ∀ z ∈ Fo fs es b, z ∈ Fo es fs b := fun z hz => conn_of R hb C b2 bin hz
  have full : ∀ z ∈ Fo fs es b, es.getD z 0 ≠ -1 := fun z hz => by
    obtain ⟨a, ha⟩ := led_in R hb r (sub z hz)
    exact (ha.swap R).fu
  have l : 1 < (Fo fs es b).length := by
    obtain ⟨a, ha⟩ := led_in R hb r bin
    have ga := (ha.swap R).right R2
    have mem := fo_closed R2 hb2 b2
    rw [ga] at mem
    refine Nat.lt_of_not_le fun k => ha.ne ?_
    generalize Fo fs es b = p at *
    match p, k with
    | [], _ => cases mem
    | [x], _ => rw [List.mem_singleton.mp mem, List.mem_singleton.mp b2]
  refine ⟨hb2, l, ?_, fun x hx => ?_⟩
  · rw [P2.headD]; exact whole_end R2 hb2 l full
  · rw [P2.headD, ← hd]; exact r.2.2 x (sub x hx)
theorem tops_swap (R : Ren es fs) : tops fs es fs.length = tops es fs es.length := by
  have k : ∀ b, b ∈ tops es fs es.length ↔ b ∈ tops fs es fs.length := fun b => ⟨top_swap R, fun h => top_swap R.swap h⟩
  unfold tops at *
  rw [← R.len] at *
  refine List.filter_congr fun b hb => ?_
  have := k b
  rw [List.mem_filter, List.mem_filter] at this
  rw [decide_eq_decide]
  exact ⟨fun h => of_decide_eq_true (this.mpr ⟨hb, decide_eq_true h⟩).2, fun h => of_decide_eq_true (this.mp ⟨hb, decide_eq_true h⟩).2⟩
theorem rngs_swap (R : Ren es fs) : (rngs fs es).length = (rngs es fs).length := by
  unfold rngs
  rw [List.length_map, List.length_map, tops_swap R]
theorem mv_swap (R : Ren es fs) : (mvA fs es fs.length).length = (mvA es fs es.length).length := by
  rw [← (mvC_perm R.swap).length_eq]
  unfold mvC mvA
  rw [List.length_map, List.length_map, R.len]
  congr 1
  refine List.filter_congr fun b hb => ?_
  by_cases z : fs.getD b 0 = -1
  · rw [decide_eq_false (fun w => w.1 z), decide_eq_true z]; simp
  · by_cases y : fs.getD b 0 = es.getD b 0
    · rw [decide_eq_false (fun w => w.2 y), decide_eq_true y]; rfl
    · rw [decide_eq_true ⟨z, y⟩, decide_eq_false z, decide_eq_false y]; rfl
theorem vdt_swap (R : Ren es fs) : vdt fs es = vdt es fs := by
  have e1 : (fs = es) = (es = fs) := propext ⟨Eq.symm, Eq.symm⟩
  have e2 : (-1 ∉ fs) = (-1 ∉ es) := propext (not_congr R.pm.mem_iff.symm)
  have e3 : (codes fs = codes es) = (codes es = codes fs) := propext ⟨Eq.symm, Eq.symm⟩
  have e4 : (crowd fs es) = crowd es fs := by
    unfold crowd
    have a : fs.count (-1) = es.count (-1) := (R.pm.count_eq _).symm
    have b : (rngs fs es ≠ []) = (rngs es fs ≠ []) := propext (not_congr (by rw [← List.length_eq_zero_iff, ← List.length_eq_zero_iff, rngs_swap R]))
    rw [a, b]
  have e5 : mono fs = mono es := by
    unfold mono
    exact propext ⟨fun h x hx y hy => h x (R.pm.mem_iff.mp hx) y (R.pm.mem_iff.mp hy), fun h x hx y hy => h x (R.pm.mem_iff.mpr hx) y (R.pm.mem_iff.mpr hy)⟩
  unfold vdt
  simp only [e1, e2, e3, e4, e5]
end
/-- what the law is due as the obstacle -/
def DuAt (H : Hp) (d : Addr) (k : Nat) (es fs : List Int) : Prop :=
  (k ≠ 4 ∧ RsnAt H d k es fs) ∨ (k = 4 ∧ ∃ t bs, H d = some (.tup [.str (Str.ofString "undecided"), .ref t]) ∧ H t = some (.tup (bs.map V.ref)) ∧ NRows H bs (rngs es fs))
theorem DuAt.same {H H' : Hp} {d : Addr} {k : Nat} {es fs : List Int} (h : DuAt H d k es fs) (S : Same H H') : DuAt H' d k es fs := by
  rcases h with ⟨n, h⟩ | ⟨e, t, bs, h1, h2, h3⟩
  · exact .inl ⟨n, h.same S⟩
  · exact .inr ⟨e, t, bs, S _ _ h1, S _ _ h2, TupsAt.same S h3⟩
theorem rd_neRN {K : PySem.W.Frag} {H : Hp} {Q : VK} {p p2 : Addr} {bs : List Addr} {ps : List (List Nat)} (h : H p = some (.lst (bs.map V.ref))) (t : NRows H bs ps) (h2 : H p2 = some (.lst [])) (q : Q (.bl (!decide (ps = []))) H) : rNeD K (.ref p) (.ref p2) H Q := by
  refine ⟨_, _, .lst (SqL.of h) (dp_rws t), .lst (SqL.of h2) .nil, (sh_rows ps).shaped (by decide), by decide, ?_⟩
  cases ps with
  | nil => exact q
  | cons x r => exact q
theorem rd_maxL {K : PySem.W.Frag} {H : Hp} {Q : VK} {a : Addr} {ns : List Int} (h : H a = some (.lst (ns.map V.int))) (l : 0 < ns.length) (q : ∀ m, m ∈ ns → (∀ y, y ∈ ns → y ≤ m) → Q (.int m) H) : rMax K [.ref a] H Q := ⟨a, ns, rfl, .of h, l, q⟩
theorem mem_kinds {es : List Int} {k : Int} : k ∈ kinds es ↔ ∃ e ∈ es, e ≠ -1 ∧ e.fdiv 100 = k := by
  unfold kinds
  rw [List.mem_map]
  refine ⟨fun ⟨e, he, h⟩ => ?_, fun ⟨e, he, n, h⟩ => ⟨e, List.mem_filter.mpr ⟨he, by simpa using n⟩, h⟩⟩
  obtain ⟨h1, h2⟩ := List.mem_filter.mp he
  exact ⟨e, h1, by simpa using h2, h⟩
theorem mono_mm {es : List Int} (I : Rg es) {m1 m2 : Int} (h1 : m1 ∈ kinds es) (l1 : ∀ y, y ∈ kinds es → m1 ≤ y) (h2 : m2 ∈ kinds es) (l2 : ∀ y, y ∈ kinds es → y ≤ m2) : m1 = m2 ↔ mono es := by
  constructor
  · intro e x hx y hy nx ny
    rw [sg_fdiv (I x hx) (I y hy) nx ny]
    have kx : x.fdiv 100 ∈ kinds es := mem_kinds.mpr ⟨x, hx, nx, rfl⟩
    have ky : y.fdiv 100 ∈ kinds es := mem_kinds.mpr ⟨y, hy, ny, rfl⟩
    have a1 := l1 _ kx
    have a2 := l2 _ kx
    have b1 := l1 _ ky
    have b2 := l2 _ ky
    omega
  · intro m
    obtain ⟨x, hx, nx, rfl⟩ := mem_kinds.mp h1
    obtain ⟨y, hy, ny, rfl⟩ := mem_kinds.mp h2
    exact (sg_fdiv (I x hx) (I y hy) nx ny).mp (m x hx y hy nx ny)
theorem kinds_pos {es fs : List Int} (R : Ren es fs) (n : rngs es fs ≠ []) : 0 < (kinds es).length := by
  obtain ⟨r, hr⟩ := List.exists_mem_of_ne_nil _ n
  unfold rngs at hr
  obtain ⟨b, hb, _⟩ := List.mem_map.mp hr
  obtain ⟨lb, rb⟩ := mem_tops.mp hb
  obtain ⟨P, _⟩ := fo_p R lb
  obtain ⟨a, ha⟩ := led_in R lb rb (List.mem_of_getElem? P.hd)
  exact List.length_pos_of_mem (mem_kinds.mpr ⟨es.getD b 0, mem_at lb, by rw [← ha.eq]; exact ha.fu, rfl⟩)
end RZ2
/-! for k76: anchors of a rename pair, reasons as data -/
namespace RZ2
open PySem PySem.Spec PyProof.Rows L2 RL RQ RV Rv
section
variable {es fs : List Int}
theorem fk_pos {x : Int} {b : Nat} (k : KeptB es fs b x) : ∀ m, b < m → 0 ≤ fk es fs x m
  | 0, h => absurd h (Nat.not_lt_zero _)
  | m + 1, h => by
    rw [fk_next]
    by_cases z : 0 ≤ fk es fs x m
    · rw [if_pos z]; exact z
    · rw [if_neg z]
      have e : b = m := by
        by_cases c : b < m
        · exact absurd (fk_pos k m c) z
        · omega
      rw [if_pos (by rw [← e]; exact k)]
      omega
theorem an_at (R : Ren es fs) (J : Rg fs) {b : Nat} (hb : b < es.length) : an es fs (fs.getD b 0) = if es.getD b 0 ≠ -1 ∧ es.getD b 0 = fs.getD b 0 then (b : Int) else -1 := by
  have hf : b < fs.length := by rw [← R.len]; exact hb
  have rg := J _ (mem_at hf)
  have uniq : ∀ j, j < fs.length → fs.getD b 0 ≠ -1 → KeptB es fs j (fs.getD b 0) → j = b := fun j hj n k => R.injF (by rw [R.len]; exact hj) hb k.2 (by rw [k.2]; exact n)
  by_cases c : es.getD b 0 ≠ -1 ∧ es.getD b 0 = fs.getD b 0
  · rw [if_pos c]
    have n : fs.getD b 0 ≠ -1 := by rw [← c.2]; exact c.1
    have p := fk_pos (x := fs.getD b 0) (b := b) ⟨c.2, rfl⟩ fs.length hf
    rcases an_of (es := es) (fs := fs) (x := fs.getD b 0) with h | ⟨h0, h1, h2, k⟩
    · unfold an at h
      rw [if_neg (by omega)] at h
      omega
    · have := uniq _ (by omega) n k
      omega
  · rw [if_neg c]
    rcases an_of (es := es) (fs := fs) (x := fs.getD b 0) with h | ⟨h0, h1, h2, k⟩
    · exact h
    · have e := uniq _ (by omega) (by omega) k
      rw [e] at k
      exact absurd ⟨by rw [k.1]; omega, k.1⟩ c
def sptL (es fs : List Int) (n : Nat) : List Int := (List.range n).map fun b => if es.getD b 0 = fs.getD b 0 then (b : Int) else -1
theorem sptL_len (es fs : List Int) (n : Nat) : (sptL es fs n).length = n := by unfold sptL; rw [List.length_map, List.length_range]
def dueL (es fs : List Int) (n : Nat) : List Int := (List.range n).map fun b => if es.getD b 0 ≠ -1 ∧ es.getD b 0 = fs.getD b 0 then (b : Int) else -1
theorem anL_due (R : Ren es fs) (J : Rg fs) : anL es fs = dueL es fs es.length := by
  unfold anL dueL
  apply List.ext_getElem?
  intro i
  rw [List.getElem?_map, List.getElem?_map]
  by_cases h : i < es.length
  · have hf : i < fs.length := by rw [← R.len]; exact h
    rw [get_at hf, List.getElem?_range h]
    show some _ = some _
    rw [an_at R J h]
  · rw [List.getElem?_eq_none (by rw [← R.len]; omega), List.getElem?_eq_none (by rw [List.length_range]; omega)]
    rfl
theorem mem_mvA {n : Nat} {x : Int} : x ∈ mvA es fs n ↔ ∃ b, b < n ∧ fs.getD b 0 ≠ es.getD b 0 ∧ fs.getD b 0 ≠ -1 ∧ fs.getD b 0 = x := by
  unfold mvA
  rw [List.mem_map]
  constructor
  · rintro ⟨b, hb, e⟩
    obtain ⟨h1, h2⟩ := List.mem_filter.mp hb
    rw [Bool.and_eq_true, Bool.not_eq_true', Bool.not_eq_true', decide_eq_false_iff_not, decide_eq_false_iff_not] at h2
    exact ⟨b, List.mem_range.mp h1, h2.1, h2.2, e⟩
  · rintro ⟨b, h1, h2, h3, e⟩
    refine ⟨b, List.mem_filter.mpr ⟨List.mem_range.mpr h1, ?_⟩, e⟩
    rw [Bool.and_eq_true, Bool.not_eq_true', Bool.not_eq_true', decide_eq_false_iff_not, decide_eq_false_iff_not]
    exact ⟨h2, h3⟩
theorem loose_mem (R : Ren es fs) (J : Rg fs) {x : Int} : x ∈ looseL es fs ↔ x ∈ mvA es fs es.length := by
  unfold looseL
  rw [List.mem_filter, mem_mvA]
  constructor
  · rintro ⟨hx, h⟩
    obtain ⟨h0, h1⟩ := of_decide_eq_true h
    obtain ⟨b, eb⟩ := List.getElem?_of_mem hx
    have lb := (List.getElem?_eq_some_iff.mp eb).1
    have e : fs.getD b 0 = x := by rw [List.getD_eq_getElem?_getD, eb]; rfl
    have hb : b < es.length := by rw [R.len]; exact lb
    have a := an_at R J hb
    rw [e] at a
    refine ⟨b, hb, fun w => ?_, by omega, e⟩
    rw [if_pos ⟨by rw [← w, e]; omega, by rw [← w, e]⟩] at a
    omega
  · rintro ⟨b, hb, n, f, rfl⟩
    have lb : b < fs.length := by rw [← R.len]; exact hb
    have rg := J _ (mem_at lb)
    have a := an_at R J hb
    rw [if_neg (fun w => n w.2.symm)] at a
    exact ⟨mem_at lb, decide_eq_true ⟨by omega, by omega⟩⟩
theorem mv_nd (R : Ren es fs) : (mvA es fs es.length).Nodup := by
  unfold mvA
  refine nd_map (nd_range _ _) fun a ha b hb e => ?_
  obtain ⟨h1, h2⟩ := List.mem_filter.mp ha
  obtain ⟨h3, _⟩ := List.mem_filter.mp hb
  rw [Bool.and_eq_true, Bool.not_eq_true', Bool.not_eq_true', decide_eq_false_iff_not, decide_eq_false_iff_not] at h2
  exact R.injF (List.mem_range.mp h1) (List.mem_range.mp h3) e h2.2
theorem mv_asc (R : Ren es fs) (J : Rg fs) {ms : List Int} (pm : ms.Perm (mvA es fs es.length)) (pw : ms.Pairwise (· ≤ ·)) : Asc (looseL es fs) ms := by
  have nd : ms.Nodup := pm.nodup_iff.mpr (mv_nd R)
  refine ⟨(pw.and nd).imp fun h => by have := h.1; have := h.2; omega, fun k => ?_⟩
  rw [loose_mem R J]
  exact pm.mem_iff
theorem mv_nil (R : Ren es fs) (h : mvA es fs es.length = []) : es = fs := by
  have h2 : mvC es fs es.length = [] := by
    have := (mvC_perm R).length_eq
    rw [h] at this
    exact List.length_eq_zero_iff.mp this
  apply List.ext_getElem?
  intro i
  by_cases hi : i < es.length
  · rw [get_at hi, get_at (by rw [← R.len]; exact hi)]
    refine congrArg some (Classical.byContradiction fun n => ?_)
    have a : ¬ (fs.getD i 0 ≠ -1) := fun f => by
      have := mem_mvA.mpr ⟨i, hi, fun e => n e.symm, f, rfl⟩
      rw [h] at this
      cases this
    have b : ¬ (es.getD i 0 ≠ -1) := fun f => by
      have : es.getD i 0 ∈ mvC es fs es.length := by
        unfold mvC
        exact List.mem_map.mpr ⟨i, List.mem_filter.mpr ⟨List.mem_range.mpr hi, decide_eq_true ⟨f, n⟩⟩, rfl⟩
      rw [h2] at this
      cases this
    omega
  · rw [List.getElem?_eq_none (by omega), List.getElem?_eq_none (by rw [← R.len]; omega)]
end
section
variable {K : PySem.W.Frag} {H : Hp} {Q : VK} {es fs : List Int} {p d u t : Addr} {k : Nat} {bs cs : List Addr}
theorem rd_neRsn (h : RsnAt H p k es fs) (h2 : RsnAt H d k es fs) (q : Q (.bl false) H) : rNeD K (.ref p) (.ref d) H Q :=
  ⟨_, _, rsn_dp h, rsn_dp h2, (rsn_sh _ _).shaped (by decide), (rsn_sh _ _).shaped (by decide), by rw [SeqAt.eqv_refl _ (rsn_sh _ _).l]; exact q⟩
theorem sh_rowsT (ps : List (List Nat)) : Sh 2 (.tuple (ps.map rowD)) := Sh.tuple fun d hd => by
  obtain ⟨p, _, rfl⟩ := List.mem_map.mp hd
  exact Sh.tuple fun d hd => by
    obtain ⟨x, _, rfl⟩ := List.mem_map.mp hd
    exact Sh.int x
theorem rd_eqRT {ps : List (List Nat)} (h : H p = some (.tup (bs.map V.ref))) (t1 : NRows H bs ps) (h2 : H t = some (.tup (cs.map V.ref))) (t2 : NRows H cs ps) (q : Q (.bl true) H) : rEqD K (.ref p) (.ref t) H Q :=
  ⟨_, _, .tup (SqT.of h) (dp_rws t1), .tup (SqT.of h2) (dp_rws t2), (sh_rowsT ps).shaped (by decide), (sh_rowsT ps).shaped (by decide), by rw [SeqAt.eqv_refl _ (sh_rowsT ps).l]; exact q⟩
/-- what judge_obstacle says to a reason -/
def jv (k : Nat) (es fs : List Int) : Bool := decide (es ≠ fs) && (if k = 1 then decide (-1 ∉ es) else if k = 2 then decide (codes es = codes fs) else true)
end
end RZ2
namespace Rv
open PySem PySem.Spec PyProof.Rows L2
theorem unitsH {k : Nat} {A : Around} (r : L2H.RoomH k A) : A.units + 64 < cLine := by have := r.un; omega
theorem and_cut {b d : Bool} {t : TE} {σ : L2.St} {H : Hp} {R : VK} (ht : b = true → ∀ R' : VK, (∀ H', Same H H' → R' (.bl d) H') → t σ H R') (q : ∀ H', Same H H' → R (.bl (b && d)) H') : ∃ c, V.bl b = V.bl c ∧ if c = true then t σ H R else R (.bl false) H :=
  ⟨b, rfl, by
    cases b with
    | false => exact q H (Same.refl _)
    | true => exact ht rfl R q⟩
theorem pick_names {vs ns : List Int} (nd : vs.Nodup) (l : ns.length = vs.length) : vs.map (fun v => ns.getD (vs.idxOf v) 0) = ns := by
  apply List.ext_getElem?
  intro i
  rw [List.getElem?_map]
  by_cases h : i < vs.length
  · rw [List.getElem?_eq_getElem h]
    show some (ns.getD (vs.idxOf vs[i]) 0) = _
    rw [nd.idxOf_getElem i h, List.getD_eq_getElem?_getD, List.getElem?_eq_getElem (by omega)]
    rfl
  · rw [List.getElem?_eq_none (by omega), List.getElem?_eq_none (by omega)]
    rfl
/-- x is y, bools -/
def rIsB : R2 := fun x y H Q => ∃ a b : Bool, x = .bl a ∧ y = .bl b ∧ Q (.bl (decide (a = b))) H
theorem op_isB {X : Cx} : OpR X (compareOp .Is) rIsB := op_is_bl
theorem rd_isB {H : Hp} {Q : VK} {a b : Bool} (q : Q (.bl (decide (a = b))) H) : rIsB (.bl a) (.bl b) H Q := ⟨a, b, rfl, rfl, q⟩
theorem rd_neNil {K : PySem.W.Frag} {H : Hp} {Q : VK} {p p2 : Addr} {ns : List Int} (h : H p = some (.lst (ns.map V.int))) (h2 : H p2 = some (.lst [])) (q : Q (.bl (!decide (ns = []))) H) : rNeD K (.ref p) (.ref p2) H Q := by
  refine ⟨_, _, .lst (SqL.of h) (dp_ints ns), .lst (SqL.of h2) .nil, (Sh.list (k := 0) fun d hd => ?_).shaped (by decide), by decide, ?_⟩
  · obtain ⟨x, _, rfl⟩ := List.mem_map.mp hd
    exact Sh.int x
  · cases ns with
    | nil => exact q
    | cons x r => exact q
theorem if_cut {b : Bool} {t1 t2 : TE} {σ : L2.St} {H : Hp} {R : VK} (P : V → Hp → Prop) (f : ∀ R' : VK, (∀ v H', P v H' → R' v H') → if b = true then t1 σ H R' else t2 σ H R') (q : ∀ v H', P v H' → R v H') : if b = true then t1 σ H R else t2 σ H R := f R q
theorem emp1 (n d : Nat) (n1 : 1 ≤ n) : ∃ e : Nat, (if (2 + (d : Int)) < (if (n : Int) - 2 > 1 then (n : Int) - 2 else 1) then 2 + (d : Int) else (if (n : Int) - 2 > 1 then (n : Int) - 2 else 1)) = (e : Int) ∧ e ≤ n := by
  generalize hx : (if (2 + (d : Int)) < (if (n : Int) - 2 > 1 then (n : Int) - 2 else 1) then 2 + (d : Int) else (if (n : Int) - 2 > 1 then (n : Int) - 2 else 1)) = x
  refine ⟨x.toNat, ?_⟩
  by_cases a : (n : Int) - 2 > 1
  · rw [if_pos a] at hx
    by_cases b : (2 + (d : Int)) < (n : Int) - 2
    · rw [if_pos b] at hx; omega
    · rw [if_neg b] at hx; omega
  · rw [if_neg a] at hx
    by_cases b : (2 + (d : Int)) < 1
    · rw [if_pos b] at hx; omega
    · rw [if_neg b] at hx; omega
theorem emp2 (n d : Nat) (n1 : 1 ≤ n) : ∃ e : Nat, (if (if (n : Int) - 2 > 1 then (n : Int) - 2 else 1) < 1 + (d : Int) then (if (n : Int) - 2 > 1 then (n : Int) - 2 else 1) else 1 + (d : Int)) = (e : Int) ∧ e ≤ n := by
  generalize hx : (if (if (n : Int) - 2 > 1 then (n : Int) - 2 else 1) < 1 + (d : Int) then (if (n : Int) - 2 > 1 then (n : Int) - 2 else 1) else 1 + (d : Int)) = x
  refine ⟨x.toNat, ?_⟩
  by_cases a : (n : Int) - 2 > 1
  · rw [if_pos a] at hx
    by_cases b : (n : Int) - 2 < 1 + (d : Int)
    · rw [if_pos b] at hx; omega
    · rw [if_neg b] at hx; omega
  · rw [if_neg a] at hx
    by_cases b : (1 : Int) < 1 + (d : Int)
    · rw [if_pos b] at hx; omega
    · rw [if_neg b] at hx; omega
theorem tif_cut {c : TT} {t1 t2 : TE} {σ : L2.St} {H : Hp} {R : VK} (P : V → Hp → Prop) (f : ∀ R' : VK, (∀ v H', P v H' → R' v H') → tIf c t1 t2 σ H R') (q : ∀ v H', P v H' → R v H') : tIf c t1 t2 σ H R := f R q
open RQ
def nameF (vs ns : List Int) (v : Int) : Int := if v = -1 then -1 else ns.getD (vs.idxOf v) 0
theorem full_vs {vs : List Int} {e : Nat} (rg : ∀ x ∈ vs, 0 ≤ x ∧ x ≤ 999) : full (vs ++ List.replicate e (-1)) = vs := by
  unfold full
  rw [List.filter_append, List.filter_eq_self.mpr (fun x hx => by have := rg x hx; rw [decide_eq_false (show ¬ x = -1 by omega)]; rfl), List.filter_eq_nil_iff.mpr (fun x hx => by rw [(List.mem_replicate.mp hx).2]; decide), List.append_nil]
theorem full_nd76 {vs es : List Int} {e : Nat} (rg : ∀ x ∈ vs, 0 ≤ x ∧ x ≤ 999) (nd : vs.Nodup) (pm : es.Perm (vs ++ List.replicate e (-1))) : (full es).Nodup := by
  have h : (full es).Perm (full (vs ++ List.replicate e (-1))) := pm.filter _
  rw [full_vs rg] at h
  exact h.nodup_iff.mpr nd
theorem name_perm {vs ns es : List Int} {e : Nat} (rg : ∀ x ∈ vs, 0 ≤ x ∧ x ≤ 999) (nd : vs.Nodup) (pn : ns.Perm vs) (pm : es.Perm (vs ++ List.replicate e (-1))) : es.Perm (es.map (nameF vs ns)) := by
  have h1 := pm.map (nameF vs ns)
  rw [List.map_append] at h1
  have e1 : vs.map (nameF vs ns) = ns := by
    rw [← pick_names nd pn.length_eq]
    refine List.map_congr_left fun x hx => ?_
    have := rg x hx
    unfold nameF
    rw [if_neg (by omega), pick_names nd pn.length_eq]
  have e2 : (List.replicate e (-1)).map (nameF vs ns) = List.replicate e (-1) := by
    rw [List.map_replicate]
    rfl
  rw [e1, e2] at h1
  exact pm.trans ((pn.symm.append_right _).trans h1.symm)
end Rv
/-! a for over a tuple within what is called while an exception is handled -/
namespace RH
open PySem PySem.Spec PyProof.Rows L2 HotX
section
variable {prog : Program} {w : World} {A : Around} {E : Value → Shared → Prop} {s : Shared}
/-- the tuple is at its end; the StopIteration made there gets the handled one as its context -/
theorem tup_end {j a x1 : Addr} {n : Nat} {zs : Array Value} {R : Option Value → Shared → Prop} (hot : HotAt A x1 s.heap) (ji : s.heap.IsTupleIter j a n) (jt : s.heap.IsTuple a zs) (no : zs[n]? = none) (ne : x1 ≠ j)
    (r : ∀ h', (∀ b o, b ≠ j → s.heap.get? b = some o → h'.get? b = some o) → R none { s with heap := h' }) : wpAny (model prog w) A (pyNext (.ref j)) R E s := by
  have ty : s.TypeIs (.ref j) "tuple_iterator" := ji.typeIs
  obtain ⟨oj, e1, c1, d1⟩ := ji
  obtain ⟨oa, e2, _, l2, d2⟩ := jt
  obtain ⟨hh, o1, u1, g1, f1, k1⟩ := hot
  unfold pyNext
  refine wpAny_bind (wpAny_attempt (wpAny_callSpecial?_slot (name := Str.ofString "__next__") ty F.slot_tuple_iterator_next (wpAny_call_entry F.slot_tuple_iterator_next ty F.entry_tuple_iterator_next ?_ (F.args_tuple_iterator_next_1 _))))
  show wpAny _ _ (field (.ref j) 0 >>= _) _ _ s
  refine wpAny_bind (wpAny_field e1 d1 (x := .ref a) rfl ?_)
  show wpAny _ _ (if (Value.ref a == Value.none) = true then _ else _) _ _ s
  have nn : ¬ ((Value.ref a == Value.none) = true) := Bool.false_ne_true
  rw [if_neg nn]
  show wpAny _ _ (field (.ref j) 1 >>= _) _ _ s
  refine wpAny_bind (wpAny_field e1 d1 (x := .int n 0) rfl ?_)
  show wpAny _ _ (seqItems? (.ref a) >>= _) _ _ s
  refine wpAny_bind (wpAny_seqItems e2 d2 ?_)
  simp only [Int.toNat_natCast, no]
  refine wpAny_bind (wpAny_rule (wpAny_bind (wpAny_setField e1 d1 (by simp) ?_)))
  have up : ∀ b o, b ≠ j → s.heap.get? b = some o → (s.heap.update j (Obj.mapFields (·.setIfInBounds 0 .none))).get? b = some o := fun b o nb e => by
    rw [Heap.get?_update_other _ _ nb.symm]
    exact e
  have g2 := up x1 o1 ne g1
  generalize s.heap.update j (Obj.mapFields (·.setIfInBounds 0 .none)) = h1 at *
  show wpAny _ _ (newExc (.type "StopIteration") [] >>= _) _ _ _
  refine wpAny_bind ?_
  simp only [newExc, newTuple]
  refine wpAny_bind (wpAny_newObj_type ?_ (by size_fits)); refine wpAny_bind (m := firstArgMember _ _) (wpAny_of_eq (a := Value.none) (by first | rfl | (simp only [firstArgMember]; rfl)) (wpAny_newObj_type ?_ (by size_fits)))
  have g3 : ∀ (u v : Obj), ((h1.push u).push v).get? x1 = some o1 := fun u v => Heap.get?_push_of_some _ (Heap.get?_push_of_some _ g2)
  have lt : ∀ u : Obj, x1 ≠ (h1.push u).objs.size := fun u => Nat.ne_of_lt (Heap.lt_size (Heap.get?_push_of_some _ g2))
  refine raiseNew_hot ⟨hh, o1, u1, g3 _ _, f1, k1⟩ (lt _) (Heap.get?_push_size _ rfl) rfl (by first | (simp; done) | (simp only [Array.size_append]; simp; omega)) ?_
  refine wpAny_bind (wpAny_isInstance (b := true) (T := "StopIteration") ⟨_, Heap.get?_update_self _ (Heap.get?_push_size _ rfl) rfl, rfl⟩ isSubtype_stop (wpAny_pure (r _ fun b o nb e => ?_)))
  have e2 := up b o nb e
  have e3 := Heap.get?_push_of_some (o := { cls := .type "tuple", data := .seq #[] }) e2
  rw [Heap.get?_update_other _ _ (Nat.ne_of_gt (Heap.lt_size e3))]
  exact Heap.get?_push_of_some _ e3
end
theorem turn_tupH {P : Program} {w : World} {K : PySem.W.Frag} {tg : Expr} (a it : Addr) : L2H.TurnH P w K tg (Itt K a) [it] it (fun i h => h.IsTupleIter it a i) := by
  refine ⟨List.mem_cons_self, fun i h st b hb => ?_, fun i h h' st k => st.at fun o e => k it List.mem_cons_self o e, fun X hP hw hK hc i pins s σ H E I hf st hg => ?_, fun X hP hw hK hc i pins s σ H E I hf st hg => ?_, fun _ _ _ _ _ st h => wpAny_pyIter_tupleiter st h⟩
  · obtain ⟨o, e, _, d⟩ := st
    rw [List.mem_singleton.mp hb]
    exact ⟨o, e, fun v z => by rw [d] at z; cases z⟩
  · subst hP hw hK
    obtain ⟨xs, x, hq, hx⟩ := hg
    obtain ⟨its, rv, p, _⟩ := I.tuple hq
    obtain ⟨u, hu, ru⟩ := rv.get hx
    obtain ⟨f0, f1, f2, f3, f4, f5⟩ := hf it List.mem_cons_self
    have tp : s.heap.IsTuple a its.toArray := p
    refine wpAny_pyNext_tuple_item st tp (x := u) (by simpa using hu) fun h' st' sb => ?_
    have J : Inv X pins σ H { s with heap := h' } := I.turned (fun b o hb e => (sb.2 b hb).trans e) f0 f1 f3 f4 f5 (t' := s.toks)
    obtain ⟨o, e, c, d⟩ := id st'
    refine ⟨u, rfl, go_of (s := { s with heap := h' }) e c d (by decide) ⟨x, H, J, ru, ⟨rfl, fun ys hy => ?_⟩, st', fun b hb => (hf b hb).1⟩⟩
    rw [I.tuple_inj hy hq]
    exact hx
  · subst hP hw hK
    obtain ⟨xs, hq, hx⟩ := hg
    obtain ⟨its, rv, p, _⟩ := I.tuple hq
    obtain ⟨f0, f1, f2, f3, f4, f5⟩ := hf it List.mem_cons_self
    obtain ⟨x1, hot⟩ := hc.at I
    have tp : s.heap.IsTuple a its.toArray := p
    have hl := rv.length
    refine tup_end hot st tp (by simp; omega) (fun z => ?_) fun h' eb => ⟨rfl, I.turned (fun b o hb e => eb b o hb e) f0 f1 f3 f4 f5 (t' := s.toks)⟩
    obtain ⟨_, o1, u1, g1, d1, k1⟩ := hot
    obtain ⟨oj, e1, _, dj⟩ := st
    rw [z, e1] at g1
    cases g1
    rw [dj] at d1
    cases d1
    simp at k1
theorem pi_tupH {X : Cx} {tg l : Expr} {tl : TE} (hl : PE X l tl) : L2H.PIH X tg l (iTup X.K tl) := by
  refine ⟨fun pins s σ H R I h => thn (hl.run pins s σ H _ I h) fun v s1 ⟨x, H1, I1, r1, q1⟩ => ?_⟩
  obtain ⟨a, rfl, ⟨xs, hq⟩, q⟩ := q1
  cases r1
  obtain ⟨its, rv, p, _⟩ := I1.tuple hq
  have tp : s1.heap.IsTuple a its.toArray := p
  refine wpAny_pyIter_tuple tp ⟨s1.heap.objs.size, [s1.heap.objs.size], _, _, H1, rfl, I1.kept (fun b o e => Heap.get?_push_of_some _ e) (t' := s1.toks), turn_tupH a _, ⟨_, Heap.get?_push_size _ rfl, rfl, rfl⟩, fun b hb => ?_, q⟩
  rw [List.mem_singleton.mp hb]
  exact I1.fpOk (Nat.le_refl _) (I1.hok.fresh (Nat.le_refl _))
end RH
/-! exceptions whose context is known to be none (over the library's L2N), made by a class with a maker, caught by several named clauses -/
namespace RN
open PySem PySem.Spec PyProof.Rows L2 Rv
/-! defs that may raise -/
theorem passL {X : Cx} : Passes (L2N.CX X.prog X.w) X E0 := fun _ _ _ _ _ _ _ h => h.elim fun _ h => h.elim fun _ h => h.elim fun _ h => h.elim fun _ h => h.elim fun _ h => h.2.2.2.2.2.2.2.elim
section
variable {P : Program} {w : World} {K : PySem.W.Frag} {mg : Str → Option Value} {base : Heap}
theorem okX {x qual : Str} {st : Stmt} {f : Addr} {fd : FuncData} {N ps : List Str} {k : Nat} {sp : Sp} (F : Fun K x qual st f fd) (S : FnScope N ps (defScope st)) (len : ∀ vs H Q E, sp vs H Q E → vs.length = ps.length)
    (hb : ∀ (c : Value) (A : Around) (outer : List Env) (s : Shared) (H : Hp) (vs : List V) (Q : VK) (E : XK), Room k (A.deeper (envOfC qual (defScope st) s.heap.objs.size f c)) → sp vs H Q E →
      ∃ t, PSs (cxOf (L2N.CX P w) P w K mg base N qual (defScope st) f c A outer s H E) (defBody st) t ∧ t { nx := fun _ H1 => Q .non H1, rt := Q } (start N vs) H) : FnOk P w K mg base (L2N.CX P w) (k + 1) f fd ps sp := by
  obtain ⟨_, _, _, _, _, _, c, _, _, rfl, lk, hc⟩ := F.ex
  exact fn_of lk hc S len fun A o s H vs Q E r h => hb c A o s H vs Q E r h
/-! defs called while an exception is handled -/
theorem okH {x qual : Str} {st : Stmt} {f : Addr} {fd : FuncData} {N ps : List Str} {k : Nat} {sp : Sp} (F : Fun K x qual st f fd) (S : FnScope N ps (defScope st)) (len : ∀ vs H Q E, sp vs H Q E → vs.length = ps.length)
    (hb : ∀ (c : Value) (A : Around) (outer : List Env) (s : Shared) (H : Hp) (vs : List V) (Q : VK) (E : XK) (p : Addr × Obj), L2H.Hot1 A p → L2H.RoomH k (A.deeper (envOfC qual (defScope st) s.heap.objs.size f c)) → sp vs H Q E →
      ∃ t, PSs (L2H.cxH CX0 P w K mg base N qual (defScope st) f c A outer s H E p) (defBody st) t ∧ t { nx := fun _ H1 => Q .non H1, rt := Q } (start N vs) H) : L2H.FnH P w K mg base CX0 (k + 1) f fd ps sp := by
  obtain ⟨_, _, _, _, _, _, c, _, _, rfl, lk, hc⟩ := F.ex
  exact L2H.fn_ofH lk hc S len fun A o s H vs Q E p hot r h => hb c A o s H vs Q E p hot r h
theorem hotC {N : List Str} {qual : Str} {scope : Scope} {f : Addr} {cd : Value} {A : Around} {outer : List Env} {s : Shared} {H : Hp} {E : XK} {p : Addr × Obj} (hot : L2H.Hot1 A p) : L2H.HotC (L2H.cxH CX0 P w K mg base N qual scope f cd A outer s H E p) := ⟨p, hot, List.mem_cons_self⟩
end
theorem at0 {X : Cx} (σ : L2.St) : PassesAt CX0 X σ (E0) := fun _ _ _ _ _ _ h => h.elim
/-- what is handled in a suite -/
theorem suiteC {X : Cx} {a : Addr} {oe : Obj} {cls : Value} {d : Option Addr} {pn : List (Addr × Obj)} (hz : L2N.Zn cls d oe) (hf : ∃ vs, oe.data = .fields vs) : L2H.HotC (X.suite a ((a, oe) :: pn)) := by
  obtain ⟨vs, e⟩ := hf
  exact ⟨(a, oe), ⟨rfl, vs, e, hz.2.2 vs e⟩, List.mem_cons_self⟩
/-! an exception of a class with a maker -/
section
variable {X : Cx} {CX : CXT} {x : Str} {C fI : Addr} {k : Nat} {fd : FuncData} {ps : List Str} {sp : Sp} {ds : List Value} {dvs : List V} {e : Expr} {es : List Expr} {ta : TA} {p pos : Pos}
theorem pmk_oex (T : OexC X.K C) (iC : PySem.W.findIn X.K (.ref C) "__init__" = some (some (.ref fI))) (tI : PySem.W.typeIn X.K (.ref fI) = some (.type "function")) (F1 : FnOk X.prog X.w X.K X.mg X.base CX k fI fd ps sp) (hr : Room (k + 1) X.A)
    (hb : Binds X.K fd ps ds) (hd : Vals dvs ds) (hx : Passes CX X (fun _ _ _ => False)) (hg : Gl X x) (hm : X.mg x = some (.ref C)) (ha : PA X (e :: es) ta)
    (hdb : (x == ("__debug__" : Str)) = false := by decide) (he : starEach (e :: es) X.env = (false, eval e X.env) :: starEach es X.env := by rfl) (hpl : (backTo pos (starEach es X.env)).any (·.1) = false := by rfl) : L2N.PMk X (.Call (.Name x p) (e :: es) [] pos) (tMkO C sp dvs ta) := by
  intro pins s σ H Q I h
  obtain ⟨nm, cq, N, bs, bm, sn, sub, ab, col, dd, m0, m1, m2, m3, m5, hC, hbm⟩ := T.cls
  refine wpAny_Call_Name_kw (ld_glob I hg hm (PySem.W.callWith_K (h₀ := X.base) I.ok.mod.kin T.kC (thn (ha.run pos pins s σ H _ I h) fun us s1 z => ?_) he hpl) hdb)
  obtain ⟨vs, H1, I1, r1, hz, q1⟩ := z
  refine ⟨I1.kIn, ?_⟩
  show wpAny _ _ (call (.ref C) us) _ _ _
  obtain ⟨hp, g, dr, tk, os⟩ := s1
  generalize ea : hp.objs.size + 1 = a at *
  have la : hp.objs.size ≤ a := by omega
  have na : H1 a = none := I1.hok.fresh la
  have hq := q1 a na
  generalize eh : ((hp.push (PySem.W.kdv_tup us)).push (PySem.HandSPX.excO C hp.objs.size)) = h2 at *
  have old : ∀ b o, hp.get? b = some o → h2.get? b = some o := fun b o z => by rw [← eh]; exact Heap.get?_push_of_some _ (Heap.get?_push_of_some _ z)
  have got : h2.get? a = some (PySem.HandSPX.excO C hp.objs.size) := by rw [← eh, ← ea]; heap_get
  have I2 : Inv X pins σ (upd H1 a (exo a C none)) ⟨h2, g, dr, tk, os⟩ := I1.laid (a := a) (o := exo a C none) (h' := h2) old la (exo_ok got) (t' := tk)
  have r2 : Vals (V.ref a :: (vs ++ dvs)) (Value.ref a :: (us ++ ds)) := .cons rfl (r1.append hd)
  have ln : (Value.ref a :: us ++ ds).length = ps.length := (r2.length.symm).trans (F1.len _ _ _ _ hq)
  have few : us.length ≤ sizeLine := by rw [← Paired.length r1, sizeLine_eq]; omega
  subst ea eh
  refine wpAny_call (PySem.HandSPX.call_own F.excBase_ValueError (fun Y => PySem.HandSPX.refsVE_contains Y bm hbm) (I1.kIn _ _ hC) (PySem.W.looks_findIn I1.kIn iC) (fun self => PySem.W.bind_fn I1.kIn self tI) few (codeAny_mono (F1.run _ X.stack _ _ ⟨Value.ref (hp.objs.size + 1) :: us, []⟩ (Value.ref (hp.objs.size + 1) :: (us ++ ds)) _ _ (fun _ _ _ => False) (hr.make C us []) (I2.env0.make C us []) (hb _ (Value.ref (hp.objs.size + 1) :: us) I2.kIn ln) r2 hq) fun r s2 z => ?_))
  match r, z with
  | .error er, z => exact hx pins σ _ _ er s2 I2 z
  | .ok (.ret u), z =>
    obtain ⟨v, H2, os2, bare2, un2, hok2, rv, rfl, d, fs, ea, ed, hd1, q2⟩ := z
    obtain ⟨h3, g3, d3, t3, os3⟩ := s2
    obtain ⟨t0, G, J, kG, ge, hoe, na2⟩ := mk_end0 (d2 := d3) (t2 := t3) I1 la old un2 hok2 os2 bare2 ea ed hd1
    exact ⟨rv, _, _, _, ⟨G, g3, d3, t3, os3⟩, _, .ref C, some d, rfl, J, kG, ge, hoe, ⟨rfl, rfl, fun vs e => by cases e; rfl⟩, rfl, rfl, na2, rfl, bare2, raises_own T.exC T.tyC, q2⟩
  | .ok .next, z => exact z.elim
  | .ok .brk, z => exact z.elim
  | .ok .cont, z => exact z.elim
end
theorem ps_raiseQ {X : Cx} {W : WX} {e : Expr} {t : L2.St → Hp → XK → Prop} {pos : Pos} (hc : X.calm = true) (tk : L2N.Takes X W) (he : L2N.PMk X e t) : PS X (.Raise (some e) none pos) (tRaiseQ W t) := L2N.ps_raise hc tk he
end RN
/-! several named except clauses, where the context of what is caught is known to be none -/
namespace RN
open PySem PySem.Spec PyProof.Rows L2 Rv
/-- the clauses of the text, each with its rule -/
inductive ClOkN (X : Cx) : List ExceptHandler → List (Value × Nat × Suite) → Prop
  | nil {hs : List ExceptHandler} : ClOkN X hs []
  | cons {x n : Str} {c : Value} {i : Nat} {ts : Suite} {b : Stmt} {bs : List Stmt} {np p : Pos} {hs : List ExceptHandler} {l : List (Value × Nat × Suite)} (hc : Names X x c) (hi : X.N[i]? = some n) (hn : X.env.kindOf n = some .local)
      (su : ∀ (a : Addr) (o : Obj) (q : Value) (d : Option Addr) (pn : List (Addr × Obj)), L2N.Zn q d o → (∃ vs, o.data = .fields vs) → PSs (X.suite a ((a, o) :: pn)) (b :: bs) (ts a q d)) (r : ClOkN X hs l) :
      ClOkN X (.ExceptHandler (some (.Name x np)) (some n) (b :: bs) p :: hs) ((c, i, ts) :: l)
section
variable {X : Cx} {pins : List (Addr × Obj)} {σ : L2.St} {H : Hp} {s s' : Shared} {a : Addr} {G h3 : Heap} {D : Ends} {q : Value} {d : Option Addr}
/-- what is known where an exception of the body has landed -/
structure LandsN (X : Cx) (pins : List (Addr × Obj)) (σ : L2.St) (H : Hp) (s s' : Shared) (a : Addr) (G h3 : Heap) (q : Value) (d : Option Addr) : Prop where
  inv : Inv X pins σ H s
  nb : ∀ b o, s.heap.get? b = some o → b ∉ frs X.stack → G.get? b = some o
  up : s.heap.UpToSlots s'.heap
  os : s'.os = s.os
  ag : AllBare s'.gens
  na : H a = none
  fl : HandSPX.FlyingZ G (X.env :: X.outer) a (L2N.Zn q d) h3
  up3 : s'.heap.UpToSlots h3
theorem LandsN.suite (L : LandsN X pins σ H s s' a G h3 q d) (hf : X.env.frame = some X.env.locals) : ∃ o, h3.get? a = some o ∧ L2N.Zn q d o ∧ (∃ vs, o.data = .fields vs) ∧ Inv (X.suite a ((a, o) :: (X.pn ++ pins))) [] σ H { s' with heap := h3 } := by
  have J : Inv X pins σ H { s' with heap := h3 } := L.inv.landed L.nb L.fl.1 (L.up.trans L.up3) L.os L.ag
  obtain ⟨o, vs, ho, hz, hd⟩ := L.fl.there
  have far : a ∉ frs (X.env :: X.outer) := fun hm => by
    obtain ⟨_, o2, h2, nf⟩ := L.fl.2.2.1.mem hm
    rw [ho] at h2
    cases h2
    exact nf _ hd
  refine ⟨o, ho, hz, ⟨_, hd⟩, J.suite ho hd L.na (fun z => far ?_) fun hm => far ?_⟩
  · exact List.mem_filterMap.mpr ⟨X.env, List.mem_cons_self, by rw [hf, z]⟩
  · obtain ⟨e, he, z⟩ := List.mem_filterMap.mp hm
    exact List.mem_filterMap.mpr ⟨e, List.mem_cons_of_mem _ he, z⟩
theorem LandsN.go (hN : X.N.Nodup) (hf : X.env.frame = some X.env.locals) : ∀ {hs : List ExceptHandler} {l : List (Value × Nat × Suite)} {h3 : Heap}, ClOkN X hs l → LandsN X pins σ H s s' a G h3 q d → wCl X.K D l q d σ H →
    wpAny (model X.prog X.w) X.A (handleBy (.ref a) X.env hs) (SP X pins D) X.xe { s' with heap := h3 } := by
  intro hs l h3 k
  induction k with
  | nil => exact fun _ w => w.elim
  | @cons x n c i ts b bs np p hs l hc hi hn su r ih =>
    intro L w
    obtain ⟨t, e1, w⟩ := w
    obtain ⟨o, ho, hz, hd, S⟩ := L.suite hf
    have cls : PySem.W.Looks (model X.prog X.w) h3 (typeOf (.ref a)) q := fun A Q E s k z => wpAny_typeOf_ref (k _ _ ho) (by rw [hz.1]; exact z)
    have ask := PySem.W.exm_one (M := model X.prog X.w) (show X.K.In h3 from S.kIn) cls e1
    have look : ∀ {Q E : Value → Shared → Prop}, Q c { s' with heap := h3 } → wpAny (model X.prog X.w) (X.A.mark (some (.ref a))) (eval (.Name x np) X.env) Q E { s' with heap := h3 } := fun z => by
      obtain ⟨hg, hb, hm | ⟨hm, hv, nn⟩⟩ := hc
      · exact ld_glob (X := X.suite a ((a, o) :: (X.pn ++ pins))) S hg hm z hb
      · exact ld_blt (X := X.suite a ((a, o) :: (X.pn ++ pins))) S hg hm hv z nn hb
    refine wpAny_handleBy_cons (codeAny_handlers_test (look (ask.here ?_))) (fun z => nomatch z)
    cases t with
    | false => exact ih L w
    | true =>
      refine codeAny_handlers_suite_as (HandSPX.lands_againZ L.fl fun h4 fl4 up4 => ?_)
      have L4 : LandsN X pins σ H s s' a G h4 q d := { L with fl := fl4, up3 := L.up3.trans up4 }
      obtain ⟨o4, ho4, hz4, hd4, S4⟩ := L4.suite hf
      have w4 : ts a q d (clr i D) (σ.set i (some (.ref a))) H := w a L.na
      refine store_ok (X := X.suite a ((a, o4) :: (X.pn ++ pins))) (v := .ref a) S4 hN hi (.inl hn) rfl (fun s5 S5 => ?_) (.inr hn)
      refine wpAny_mono ((su a o4 q d (X.pn ++ pins) hz4 hd4).run [] s5 _ H _ S5 w4) (fun f s6 hp => ?_) (fun _ _ z => z.elim)
      have away : ∀ {σ6 : L2.St} {H6 : Hp} {R : Shared → Prop}, Inv (X.suite a ((a, o4) :: (X.pn ++ pins))) [] σ6 H6 s6 → (∀ s7, Inv X pins (σ6.set i none) H6 s7 → R s7) →
          wpAny (model X.prog X.w) X.A (do bindName X.env n .none; unbindBehindTheSuite X.env n p) (fun _ s7 => R s7) X.xe s6 := fun S6 z => gone_ok (S6.unsuite L.inv.ok) hN hi hn z
      cases f with
      | next => exact hp.elim fun _ hp => hp.elim fun _ hp => away hp.1 fun s7 J => ⟨_, _, J, hp.2⟩
      | brk => exact hp.elim fun _ hp => hp.elim fun _ hp => away hp.1 fun s7 J => ⟨_, _, J, hp.2⟩
      | cont => exact hp.elim fun _ hp => hp.elim fun _ hp => away hp.1 fun s7 J => ⟨_, _, J, hp.2⟩
      | ret u => exact hp.elim fun _ hp => hp.elim fun _ hp => hp.elim fun _ hp => away hp.1 fun s7 J => ⟨_, _, _, J, hp.2.1, hp.2.2⟩
end
theorem ps_tryM {X : Cx} {body : List Stmt} {h₀ : ExceptHandler} {hs : List ExceptHandler} {pos : Pos} (l : List (Value × Nat × Suite)) (tb : WX → TS) (hst : X.stack = X.env :: X.outer) (hf : X.env.frame = some X.env.locals) (hN : X.N.Nodup)
    (hb : ∀ (W : WX) (pn : List (Addr × Obj)) (xe : Value → Shared → Prop), L2N.Takes (X.tr pn xe) W → PSs (X.tr pn xe) body (tb W)) (hh : ClOkN X (h₀ :: hs) l) : PS X (.Try body (h₀ :: hs) [] [] pos) (tTryM X.K l tb) := by
  refine ⟨fun pins s σ H D I h => ?_⟩
  have ok := I.ok
  have fr : X.A.frames = some (X.env :: X.outer) := ok.frames.trans (congrArg some hst)
  refine wpAny_Try_except (wpAny_mono ((hb (wCl X.K D l) (X.pn ++ pins) _ (fun u s' xx => ?_)).run [] s σ H D (I.toTry _) h) (fun f s1 hp => ?_) fun _ _ z => z)
  · obtain ⟨a, G, sI, _, σ', H', q, d, rfl, J, nb, up, sky, na, os, ag, w⟩ := xx
    have sky2 : Sky G (X.env :: X.outer) a (L2N.Zn q d) X.env.locals s'.heap := hst ▸ sky
    exact L2N.Sky.land L2N.Zn.steady fr hf sky2 fun h3 fl up3 => LandsN.go hN hf hh ⟨J.ofTry ok, nb, up, os, ag, na, fl, up3⟩ w
  · cases f with
    | next => exact hp.elim fun _ hp => hp.elim fun _ hp => wpAny_execs_nil ⟨_, _, hp.1.ofTry ok, hp.2⟩
    | brk => exact hp.elim fun _ hp => hp.elim fun _ hp => ⟨_, _, hp.1.ofTry ok, hp.2⟩
    | cont => exact hp.elim fun _ hp => hp.elim fun _ hp => ⟨_, _, hp.1.ofTry ok, hp.2⟩
    | ret u => exact hp.elim fun _ hp => hp.elim fun _ hp => hp.elim fun _ hp => ⟨_, _, _, hp.1.ofTry ok, hp.2.1, hp.2.2⟩

section
variable {X : Cx} {C : Addr} {bmB : List Value} {B newId initId : String}
theorem pmk_own0 {x : Str} {p pos : Pos} (F : ExcBaseFacts B newId initId bmB) (q : PySem.W.excIn X.K C bmB newId = true) (gC : X.mg x = some (.ref C)) (kC : PySem.W.keepIn X.K (.ref C) = true) (r : Raises X (.ref C)) (hg : Gl X x)
    (hdb : (x == ("__debug__" : Str)) = false := by decide) : L2N.PMk X (.Call (.Name x p) [] [] pos) (fun _ H Q => Q (.ref C) none H) := by
  intro pins s σ H Q I h
  refine wpAny_Call_Name_kw (ld_glob I hg gC (PySem.W.callWith_K0 I.kIn kC ?_) hdb)
  show wpAny _ _ (call (.ref C) []) _ _ _
  obtain ⟨bm, N, nm, qn, bs, hdct, sn, sub, ab, col, dd, k0, k1, k2, k3, k5, mN, hC, hN, hni, T⟩ := exc_obj I.kIn q
  refine wpAny_call_exc_subT F T hC hN hni (fun h' e hm => ?_) (by show 0 ≤ sizeLine; exact Nat.zero_le _)
  exact L2N.mk_of I hm r h (I.hok.gone hm.new)
end
end RN
namespace K76
open PySem PySem.Spec PyProof.Rows L2 Rv RL RQ RV RZ2
def top (i : Nat) : Stmt := PySem.Challenge.pw_redolots_k76_whole_renames_and_replacing.main.body.getD i (.Pass ⟨0, 0, 0, 0⟩)
abbrev scheck_image : Stmt := top 11
theorem sccheck_image : FnScope ["image", "block", "entry"] ["image"] (defScope scheck_image) := ⟨rfl, rfl, rfl, by decide +kernel, rfl, by decide +kernel, by decide +kernel⟩
abbrev slook : Stmt := top 12
theorem sclook : FnScope ["image", "entry"] ["image"] (defScope slook) := ⟨rfl, rfl, rfl, by decide +kernel, rfl, by decide +kernel, by decide +kernel⟩
abbrev s_sign : Stmt := top 13
theorem sc_sign : FnScope ["entry"] ["entry"] (defScope s_sign) := ⟨rfl, rfl, rfl, by decide +kernel, rfl, by decide +kernel, by decide +kernel⟩
abbrev smatches : Stmt := top 15
theorem scmatches : FnScope ["guard", "view", "sign", "seen"] ["guard", "view"] (defScope smatches) := ⟨rfl, rfl, rfl, by decide +kernel, rfl, by decide +kernel, by decide +kernel⟩
abbrev sfires : Stmt := top 16
theorem scfires : FnScope ["line", "view", "op", "_", "source", "guard"] ["line", "view"] (defScope sfires) := ⟨rfl, rfl, rfl, by decide +kernel, rfl, by decide +kernel, by decide +kernel⟩
abbrev ssources : Stmt := top 17
theorem scsources : FnScope ["line", "view", "op", "target", "source", "_", "origins"] ["line", "view"] (defScope ssources) := ⟨rfl, rfl, rfl, by decide +kernel, rfl, by decide +kernel, by decide +kernel⟩
abbrev skept_blocks : Stmt := top 18
theorem sckept_blocks : FnScope ["view", "block", "seen"] ["view"] (defScope skept_blocks) := ⟨rfl, rfl, rfl, by decide +kernel, rfl, by decide +kernel, by decide +kernel⟩
abbrev sapply_line : Stmt := top 19
theorem scapply_line : FnScope ["line", "image", "block"] ["line", "image"] (defScope sapply_line) := ⟨rfl, rfl, rfl, by decide +kernel, rfl, by decide +kernel, by decide +kernel⟩
abbrev s_fits : Stmt := top 20
theorem sc_fits : FnScope ["sign", "seen"] ["sign", "seen"] (defScope s_fits) := ⟨rfl, rfl, rfl, by decide +kernel, rfl, by decide +kernel, by decide +kernel⟩
abbrev sfollowed : Stmt := top 22
theorem scfollowed : FnScope ["leads", "block", "path"] ["leads", "block"] (defScope sfollowed) := ⟨rfl, rfl, rfl, by decide +kernel, rfl, by decide +kernel, by decide +kernel⟩
abbrev sall_rings : Stmt := top 23
theorem scall_rings : FnScope ["leads", "paths", "block", "path"] ["leads"] (defScope sall_rings) := ⟨rfl, rfl, rfl, by decide +kernel, rfl, by decide +kernel, by decide +kernel⟩
abbrev scheck_renaming : Stmt := top 25
theorem sccheck_renaming : FnScope ["before", "after", "values", "entry"] ["before", "after"] (defScope scheck_renaming) := ⟨rfl, rfl, rfl, by decide +kernel, rfl, by decide +kernel, by decide +kernel⟩
abbrev schains : Stmt := top 26
theorem scchains : FnScope ["before", "after", "leads", "starts", "block", "entry"] ["before", "after"] (defScope schains) := ⟨rfl, rfl, rfl, by decide +kernel, rfl, by decide +kernel, by decide +kernel⟩
abbrev srings : Stmt := top 27
theorem scrings : FnScope ["before", "after"] ["before", "after"] (defScope srings) := ⟨rfl, rfl, rfl, by decide +kernel, rfl, by decide +kernel, by decide +kernel⟩
abbrev smoving : Stmt := top 28
theorem scmoving : FnScope ["before", "after", "entry", "now"] ["before", "after"] (defScope smoving) := ⟨rfl, rfl, rfl, by decide +kernel, rfl, by decide +kernel, by decide +kernel⟩
abbrev s_leads : Stmt := top 29
theorem sc_leads : FnScope ["before", "after", "entry"] ["before", "after"] (defScope s_leads) := ⟨rfl, rfl, rfl, by decide +kernel, rfl, by decide +kernel, by decide +kernel⟩
abbrev sobstacle : Stmt := top 31
theorem scobstacle : FnScope ["before", "after", "turned"] ["before", "after"] (defScope sobstacle) := ⟨rfl, rfl, rfl, by decide +kernel, rfl, by decide +kernel, by decide +kernel⟩
abbrev sjudge_obstacle : Stmt := top 32
theorem scjudge_obstacle : FnScope ["before", "after", "reason"] ["before", "after", "reason"] (defScope sjudge_obstacle) := ⟨rfl, rfl, rfl, by decide +kernel, rfl, by decide +kernel, by decide +kernel⟩
abbrev splan : Stmt := top 33
theorem scplan : FnScope ["before", "after"] ["before", "after"] (defScope splan) := ⟨rfl, rfl, rfl, by decide +kernel, rfl, by decide +kernel, by decide +kernel⟩
abbrev sfewest_moves : Stmt := top 34
theorem scfewest_moves : FnScope ["before", "after"] ["before", "after"] (defScope sfewest_moves) := ⟨rfl, rfl, rfl, by decide +kernel, rfl, by decide +kernel, by decide +kernel⟩
abbrev s_check_free : Stmt := top 35
theorem sc_check_free : FnScope ["before", "after", "reason"] ["before", "after"] (defScope s_check_free) := ⟨rfl, rfl, rfl, by decide +kernel, rfl, by decide +kernel, by decide +kernel⟩
abbrev s_is_crowded : Stmt := top 36
theorem sc_is_crowded : FnScope ["before", "after"] ["before", "after"] (defScope s_is_crowded) := ⟨rfl, rfl, rfl, by decide +kernel, rfl, by decide +kernel, by decide +kernel⟩
abbrev s_is_of_one_kind : Stmt := top 37
theorem sc_is_of_one_kind : FnScope ["image", "sign"] ["image"] (defScope s_is_of_one_kind) := ⟨rfl, rfl, rfl, by decide +kernel, rfl, by decide +kernel, by decide +kernel⟩
abbrev s_are_rings : Stmt := top 38
theorem sc_are_rings : FnScope ["before", "after", "told", "turned", "ring"] ["before", "after", "told"] (defScope s_are_rings) := ⟨rfl, rfl, rfl, by decide +kernel, rfl, by decide +kernel, by decide +kernel⟩
abbrev s_moves : Stmt := top 39
theorem sc_moves : FnScope ["before", "after", "empty", "ways", "turned", "ring", "moves", "way", "block", "entry"] ["before", "after"] (defScope s_moves) := ⟨rfl, rfl, rfl, by decide +kernel, rfl, by decide +kernel, by decide +kernel⟩
abbrev s_recolored : Stmt := top 40
theorem sc_recolored : FnScope ["before", "after", "changed", "block", "sign", "ring"] ["before", "after"] (defScope s_recolored) := ⟨rfl, rfl, rfl, by decide +kernel, rfl, by decide +kernel, by decide +kernel⟩
abbrev s_around : Stmt := top 41
theorem sc_around : FnScope ["turned", "spare", "moves", "opening", "closing", "ring", "block"] ["turned", "spare", "moves"] (defScope s_around) := ⟨rfl, rfl, rfl, by decide +kernel, rfl, by decide +kernel, by decide +kernel⟩
abbrev s_along : Stmt := top 42
theorem sc_along : FnScope ["way"] ["way"] (defScope s_along) := ⟨rfl, rfl, rfl, by decide +kernel, rfl, by decide +kernel, by decide +kernel⟩
abbrev s_staircase : Stmt := top 43
theorem sc_staircase : FnScope ["image", "moves", "script", "target", "source", "line"] ["image", "moves"] (defScope s_staircase) := ⟨rfl, rfl, rfl, by decide +kernel, rfl, by decide +kernel, by decide +kernel⟩
abbrev sanchors : Stmt := top 45
theorem scanchors : FnScope ["before", "after", "kept", "block", "entry"] ["before", "after"] (defScope sanchors) := ⟨rfl, rfl, rfl, by decide +kernel, rfl, by decide +kernel, by decide +kernel⟩
abbrev sunanchored : Stmt := top 46
theorem scunanchored : FnScope ["before", "after", "held", "block", "entry"] ["before", "after"] (defScope sunanchored) := ⟨rfl, rfl, rfl, by decide +kernel, rfl, by decide +kernel, by decide +kernel⟩
abbrev sreplace_script : Stmt := top 47
theorem screplace_script : FnScope ["before", "after", "loose", "block", "anchor"] ["before", "after"] (defScope sreplace_script) := ⟨rfl, rfl, rfl, by decide +kernel, rfl, by decide +kernel, by decide +kernel⟩
abbrev s_check_images : Stmt := top 48
theorem sc_check_images : FnScope ["before", "after"] ["before", "after"] (defScope s_check_images) := ⟨rfl, rfl, rfl, by decide +kernel, rfl, by decide +kernel, by decide +kernel⟩
abbrev s_write : Stmt := top 49
theorem sc_write : FnScope ["block", "anchor"] ["block", "anchor"] (defScope s_write) := ⟨rfl, rfl, rfl, by decide +kernel, rfl, by decide +kernel, by decide +kernel⟩
abbrev s_law_box : Stmt := top 51
theorem sc_law_box : FnScope ["script", "cells"] ["script"] (defScope s_law_box) := ⟨rfl, rfl, rfl, by decide +kernel, rfl, by decide +kernel, by decide +kernel⟩
abbrev s_law_take : Stmt := top 52
theorem sc_law_take : FnScope ["box", "many", "cells", "digit", "number", "first", "second"] ["box", "many"] (defScope s_law_take) := ⟨rfl, rfl, rfl, by decide +kernel, rfl, by decide +kernel, by decide +kernel⟩
abbrev s_law_whole : Stmt := top 53
theorem sc_law_whole : FnScope ["told"] ["told"] (defScope s_law_whole) := ⟨rfl, rfl, rfl, by decide +kernel, rfl, by decide +kernel, by decide +kernel⟩
abbrev s_law_row : Stmt := top 54
theorem sc_law_row : FnScope ["told", "entry"] ["told"] (defScope s_law_row) := ⟨rfl, rfl, rfl, by decide +kernel, rfl, by decide +kernel, by decide +kernel⟩
abbrev s_law_fits : Stmt := top 55
theorem sc_law_fits : FnScope ["guard", "held", "k"] ["guard", "held"] (defScope s_law_fits) := ⟨rfl, rfl, rfl, by decide +kernel, rfl, by decide +kernel, by decide +kernel⟩
abbrev s_law_done : Stmt := top 56
theorem sc_law_done : FnScope ["line", "held", "row"] ["line", "held"] (defScope s_law_done) := ⟨rfl, rfl, rfl, by decide +kernel, rfl, by decide +kernel, by decide +kernel⟩
abbrev s_law_view : Stmt := top 57
theorem sc_law_view : FnScope ["held", "value"] ["held"] (defScope s_law_view) := ⟨rfl, rfl, rfl, by decide +kernel, rfl, by decide +kernel, by decide +kernel⟩
abbrev s_law_mixture : Stmt := top 58
theorem sc_law_mixture : FnScope ["box", "row", "found", "left", "k"] ["box", "row"] (defScope s_law_mixture) := ⟨rfl, rfl, rfl, by decide +kernel, rfl, by decide +kernel, by decide +kernel⟩
abbrev s_law_values : Stmt := top 59
theorem sc_law_values : FnScope ["box", "count", "kinds", "k", "menu", "row", "value", "turn"] ["box", "count", "kinds"] (defScope s_law_values) := ⟨rfl, rfl, rfl, by decide +kernel, rfl, by decide +kernel, by decide +kernel⟩
abbrev s_law_rings : Stmt := top 60
theorem sc_law_rings : FnScope ["before", "after", "found", "start", "row", "spot", "turn", "is_whole", "block"] ["before", "after"] (defScope s_law_rings) := ⟨rfl, rfl, rfl, by decide +kernel, rfl, by decide +kernel, by decide +kernel⟩
abbrev s_law_moving : Stmt := top 61
theorem sc_law_moving : FnScope ["before", "after", "k"] ["before", "after"] (defScope s_law_moving) := ⟨rfl, rfl, rfl, by decide +kernel, rfl, by decide +kernel, by decide +kernel⟩
abbrev s_law_obstacle : Stmt := top 62
theorem sc_law_obstacle : FnScope ["before", "after", "circles", "kinds", "value"] ["before", "after"] (defScope s_law_obstacle) := ⟨rfl, rfl, rfl, by decide +kernel, rfl, by decide +kernel, by decide +kernel⟩
abbrev s_law_is_move : Stmt := top 63
theorem sc_law_is_move : FnScope ["line", "held", "view", "block"] ["line", "held", "view"] (defScope s_law_is_move) := ⟨rfl, rfl, rfl, by decide +kernel, rfl, by decide +kernel, by decide +kernel⟩
abbrev s_law_is_plan : Stmt := top 64
theorem sc_law_is_plan : FnScope ["told", "before", "after", "many", "now", "views", "line"] ["told", "before", "after"] (defScope s_law_is_plan) := ⟨rfl, rfl, rfl, by decide +kernel, rfl, by decide +kernel, by decide +kernel⟩
abbrev s_law_pair : Stmt := top 65
theorem sc_law_pair : FnScope ["box", "way", "blocks", "empty", "count", "values", "before", "names", "after", "value"] ["box"] (defScope s_law_pair) := ⟨rfl, rfl, rfl, by decide +kernel, rfl, by decide +kernel, by decide +kernel⟩
abbrev s_law_anchored : Stmt := top 66
theorem sc_law_anchored : FnScope ["before", "after", "moved", "told", "spots", "due", "found", "refused", "lines", "raised", "k"] ["before", "after", "moved"] (defScope s_law_anchored) := ⟨rfl, rfl, rfl, by decide +kernel, rfl, by decide +kernel, by decide +kernel⟩
abbrev s_law_rings_told : Stmt := top 67
theorem sc_law_rings_told : FnScope ["before", "after", "moved", "circles", "told", "k", "values"] ["before", "after", "moved", "circles"] (defScope s_law_rings_told) := ⟨rfl, rfl, rfl, by decide +kernel, rfl, by decide +kernel, by decide +kernel⟩
abbrev s_law_is_reason : Stmt := top 68
theorem sc_law_is_reason : FnScope ["told", "due", "circle"] ["told", "due"] (defScope s_law_is_reason) := ⟨rfl, rfl, rfl, by decide +kernel, rfl, by decide +kernel, by decide +kernel⟩
abbrev s_law_raised : Stmt := top 69
theorem sc_law_raised : FnScope ["before", "after", "way", "due", "raised"] ["before", "after", "way", "due"] (defScope s_law_raised) := ⟨rfl, rfl, rfl, by decide +kernel, rfl, by decide +kernel, by decide +kernel⟩
abbrev s_law_judged : Stmt := top 70
theorem sc_law_judged : FnScope ["before", "after", "due", "short", "holds", "k", "told"] ["before", "after", "due"] (defScope s_law_judged) := ⟨rfl, rfl, rfl, by decide +kernel, rfl, by decide +kernel, by decide +kernel⟩
abbrev s_law_length : Stmt := top 71
theorem sc_law_length : FnScope ["before", "after", "due", "moved", "told", "many", "way"] ["before", "after"] (defScope s_law_length) := ⟨rfl, rfl, rfl, by decide +kernel, rfl, by decide +kernel, by decide +kernel⟩
abbrev slaw : Stmt := top 72
theorem sclaw : FnScope ["script", "box", "before", "after", "there", "back"] ["script"] (defScope slaw) := ⟨rfl, rfl, rfl, by decide +kernel, rfl, by decide +kernel, by decide +kernel⟩
abbrev sInvalidImageu_initu : Stmt := inClass (top 3) 0
theorem scInvalidImageu_initu : FnScope ["self", "block"] ["self", "block"] (defScope sInvalidImageu_initu) := ⟨rfl, rfl, rfl, by decide +kernel, rfl, by decide +kernel, by decide +kernel⟩
abbrev sNotAnchoredu_initu : Stmt := inClass (top 4) 0
theorem scNotAnchoredu_initu : FnScope ["self", "value"] ["self", "value"] (defScope sNotAnchoredu_initu) := ⟨rfl, rfl, rfl, by decide +kernel, rfl, by decide +kernel, by decide +kernel⟩
abbrev sNoPlanu_initu : Stmt := inClass (top 5) 0
theorem scNoPlanu_initu : FnScope ["self", "reason"] ["self", "reason"] (defScope sNoPlanu_initu) := ⟨rfl, rfl, rfl, by decide +kernel, rfl, by decide +kernel, by decide +kernel⟩
abbrev sUndecidedu_initu : Stmt := inClass (top 6) 0
theorem scUndecidedu_initu : FnScope ["self", "rings"] ["self", "rings"] (defScope sUndecidedu_initu) := ⟨rfl, rfl, rfl, by decide +kernel, rfl, by decide +kernel, by decide +kernel⟩
theorem okInit_InvalidImage {P : Program} {w : World} {K : PySem.W.Frag} {mg : Str → Option Value} {base : Heap} {C fI : Addr} {fd : FuncData} (ET : ErrT K mg C fI "InvalidImage" "block") (F : Fun K "__init__" "InvalidImage.__init__" sInvalidImageu_initu fI fd) : FnOk P w K mg base CX0 1 fI fd ["self", "block"] (spErr C "block") := by
  refine F.ok scInvalidImageu_initu (fun vs H Q E h => ?_) (fun cdv A outer s H vs Q E hr h => ?_)
  · obtain ⟨a, v, rfl, _⟩ := h
    rfl
  · obtain ⟨a, v, rfl, ea, q⟩ := h
    exact ⟨_, pss_one (ps_ost (pv 0) (pv 1)), _, rfl, _, rfl, a, C, rfl, ET.ox, ET.noN, .inl ⟨ea, fun d nd ne => q d nd ne⟩⟩
theorem okInit_NotAnchored {P : Program} {w : World} {K : PySem.W.Frag} {mg : Str → Option Value} {base : Heap} {C fI : Addr} {fd : FuncData} (ET : ErrT K mg C fI "NotAnchored" "value") (F : Fun K "__init__" "NotAnchored.__init__" sNotAnchoredu_initu fI fd) : FnOk P w K mg base CX0 1 fI fd ["self", "value"] (spErr C "value") := by
  refine F.ok scNotAnchoredu_initu (fun vs H Q E h => ?_) (fun cdv A outer s H vs Q E hr h => ?_)
  · obtain ⟨a, v, rfl, _⟩ := h
    rfl
  · obtain ⟨a, v, rfl, ea, q⟩ := h
    exact ⟨_, pss_one (ps_ost (pv 0) (pv 1)), _, rfl, _, rfl, a, C, rfl, ET.ox, ET.noN, .inl ⟨ea, fun d nd ne => q d nd ne⟩⟩
theorem okInit_NoPlan {P : Program} {w : World} {K : PySem.W.Frag} {mg : Str → Option Value} {base : Heap} {C fI : Addr} {fd : FuncData} (ET : ErrT K mg C fI "NoPlan" "reason") (F : Fun K "__init__" "NoPlan.__init__" sNoPlanu_initu fI fd) : FnOk P w K mg base CX0 1 fI fd ["self", "reason"] (spErr C "reason") := by
  refine F.ok scNoPlanu_initu (fun vs H Q E h => ?_) (fun cdv A outer s H vs Q E hr h => ?_)
  · obtain ⟨a, v, rfl, _⟩ := h
    rfl
  · obtain ⟨a, v, rfl, ea, q⟩ := h
    exact ⟨_, pss_one (ps_ost (pv 0) (pv 1)), _, rfl, _, rfl, a, C, rfl, ET.ox, ET.noN, .inl ⟨ea, fun d nd ne => q d nd ne⟩⟩
theorem okInit_Undecided {P : Program} {w : World} {K : PySem.W.Frag} {mg : Str → Option Value} {base : Heap} {C fI : Addr} {fd : FuncData} (ET : ErrT K mg C fI "Undecided" "rings") (F : Fun K "__init__" "Undecided.__init__" sUndecidedu_initu fI fd) : FnOk P w K mg base CX0 1 fI fd ["self", "rings"] (spErr C "rings") := by
  refine F.ok scUndecidedu_initu (fun vs H Q E h => ?_) (fun cdv A outer s H vs Q E hr h => ?_)
  · obtain ⟨a, v, rfl, _⟩ := h
    rfl
  · obtain ⟨a, v, rfl, ea, q⟩ := h
    exact ⟨_, pss_one (ps_ost (pv 0) (pv 1)), _, rfl, _, rfl, a, C, rfl, ET.ox, ET.noN, .inl ⟨ea, fun d nd ne => q d nd ne⟩⟩
structure Top (K : PySem.W.Frag) (mg : Str → Option Value) : Prop where
  d_check_image : ∃ f fd, Def K mg "check_image" scheck_image ["image"] f fd
  d_look : ∃ f fd, Def K mg "look" slook ["image"] f fd
  d__sign : ∃ f fd, Def K mg "_sign" s_sign ["entry"] f fd
  d_matches : ∃ f fd, Def K mg "matches" smatches ["guard", "view"] f fd
  d_fires : ∃ f fd, Def K mg "fires" sfires ["line", "view"] f fd
  d_sources : ∃ f fd, Def K mg "sources" ssources ["line", "view"] f fd
  d_kept_blocks : ∃ f fd, Def K mg "kept_blocks" skept_blocks ["view"] f fd
  d_apply_line : ∃ f fd, Def K mg "apply_line" sapply_line ["line", "image"] f fd
  d__fits : ∃ f fd, Def K mg "_fits" s_fits ["sign", "seen"] f fd
  d_followed : ∃ f fd, Def K mg "followed" sfollowed ["leads", "block"] f fd
  d_all_rings : ∃ f fd, Def K mg "all_rings" sall_rings ["leads"] f fd
  d_check_renaming : ∃ f fd, Def K mg "check_renaming" scheck_renaming ["before", "after"] f fd
  d_chains : ∃ f fd, Def K mg "chains" schains ["before", "after"] f fd
  d_rings : ∃ f fd, Def K mg "rings" srings ["before", "after"] f fd
  d_moving : ∃ f fd, Def K mg "moving" smoving ["before", "after"] f fd
  d__leads : ∃ f fd, Def K mg "_leads" s_leads ["before", "after"] f fd
  d_obstacle : ∃ f fd, Def K mg "obstacle" sobstacle ["before", "after"] f fd
  d_judge_obstacle : ∃ f fd, Def K mg "judge_obstacle" sjudge_obstacle ["before", "after", "reason"] f fd
  d_plan : ∃ f fd, Def K mg "plan" splan ["before", "after"] f fd
  d_fewest_moves : ∃ f fd, Def K mg "fewest_moves" sfewest_moves ["before", "after"] f fd
  d__check_free : ∃ f fd, Def K mg "_check_free" s_check_free ["before", "after"] f fd
  d__is_crowded : ∃ f fd, Def K mg "_is_crowded" s_is_crowded ["before", "after"] f fd
  d__is_of_one_kind : ∃ f fd, Def K mg "_is_of_one_kind" s_is_of_one_kind ["image"] f fd
  d__are_rings : ∃ f fd, Def K mg "_are_rings" s_are_rings ["before", "after", "told"] f fd
  d__moves : ∃ f fd, Def K mg "_moves" s_moves ["before", "after"] f fd
  d__recolored : ∃ f fd, Def K mg "_recolored" s_recolored ["before", "after"] f fd
  d__around : ∃ f fd, Def K mg "_around" s_around ["turned", "spare", "moves"] f fd
  d__along : ∃ f fd, Def K mg "_along" s_along ["way"] f fd
  d__staircase : ∃ f fd, Def K mg "_staircase" s_staircase ["image", "moves"] f fd
  d_anchors : ∃ f fd, Def K mg "anchors" sanchors ["before", "after"] f fd
  d_unanchored : ∃ f fd, Def K mg "unanchored" sunanchored ["before", "after"] f fd
  d_replace_script : ∃ f fd, Def K mg "replace_script" sreplace_script ["before", "after"] f fd
  d__check_images : ∃ f fd, Def K mg "_check_images" s_check_images ["before", "after"] f fd
  d__write : ∃ f fd, Def K mg "_write" s_write ["block", "anchor"] f fd
  d__law_box : ∃ f fd, Def K mg "_law_box" s_law_box ["script"] f fd
  d__law_take : ∃ f fd, Def K mg "_law_take" s_law_take ["box", "many"] f fd
  d__law_whole : ∃ f fd, Def K mg "_law_whole" s_law_whole ["told"] f fd
  d__law_row : ∃ f fd, Def K mg "_law_row" s_law_row ["told"] f fd
  d__law_fits : ∃ f fd, Def K mg "_law_fits" s_law_fits ["guard", "held"] f fd
  d__law_done : ∃ f fd, Def K mg "_law_done" s_law_done ["line", "held"] f fd
  d__law_view : ∃ f fd, Def K mg "_law_view" s_law_view ["held"] f fd
  d__law_mixture : ∃ f fd, Def K mg "_law_mixture" s_law_mixture ["box", "row"] f fd
  d__law_values : ∃ f fd, Def K mg "_law_values" s_law_values ["box", "count", "kinds"] f fd
  d__law_rings : ∃ f fd, Def K mg "_law_rings" s_law_rings ["before", "after"] f fd
  d__law_moving : ∃ f fd, Def K mg "_law_moving" s_law_moving ["before", "after"] f fd
  d__law_obstacle : ∃ f fd, Def K mg "_law_obstacle" s_law_obstacle ["before", "after"] f fd
  d__law_is_move : ∃ f fd, Def K mg "_law_is_move" s_law_is_move ["line", "held", "view"] f fd
  d__law_is_plan : ∃ f fd, Def K mg "_law_is_plan" s_law_is_plan ["told", "before", "after"] f fd
  d__law_pair : ∃ f fd, Def K mg "_law_pair" s_law_pair ["box"] f fd
  d__law_anchored : ∃ f fd, Def K mg "_law_anchored" s_law_anchored ["before", "after", "moved"] f fd
  d__law_rings_told : ∃ f fd, Def K mg "_law_rings_told" s_law_rings_told ["before", "after", "moved", "circles"] f fd
  d__law_is_reason : ∃ f fd, Def K mg "_law_is_reason" s_law_is_reason ["told", "due"] f fd
  d__law_raised : ∃ f fd, Def K mg "_law_raised" s_law_raised ["before", "after", "way", "due"] f fd
  d__law_judged : ∃ f fd, Def K mg "_law_judged" s_law_judged ["before", "after", "due"] f fd
  d__law_length : ∃ f fd, Def K mg "_law_length" s_law_length ["before", "after"] f fd
  d_law : ∃ f fd, Def K mg "law" slaw ["script"] f fd
  b_abs : mg "abs" = none
  b_all : mg "all" = none
  b_any : mg "any" = none
  b_bool : mg "bool" = none
  b_enumerate : mg "enumerate" = none
  b_int : mg "int" = none
  b_isinstance : mg "isinstance" = none
  b_len : mg "len" = none
  b_list : mg "list" = none
  b_max : mg "max" = none
  b_min : mg "min" = none
  b_range : mg "range" = none
  b_set : mg "set" = none
  b_sorted : mg "sorted" = none
  b_str : mg "str" = none
  b_sum : mg "sum" = none
  b_tuple : mg "tuple" = none
  b_zip : mg "zip" = none
  k_EMPTY : ∃ u, mg "EMPTY" = some u ∧ RelV (.int (-1)) u
  k__GREATEST : ∃ u, mg "_GREATEST" = some u ∧ RelV (.int (999)) u
  k__MOST_BLOCKS : ∃ u, mg "_MOST_BLOCKS" = some u ∧ RelV (.int (12)) u
  e_InvalidImage : ∃ (fI : Addr) (fd : FuncData), ErrT K mg (atTop K "InvalidImage") fI "InvalidImage" "block" ∧ Fun K "__init__" "InvalidImage.__init__" sInvalidImageu_initu fI fd ∧ Binds K fd ["self", "block"] []
  e_NotAnchored : ∃ (fI : Addr) (fd : FuncData), ErrT K mg (atTop K "NotAnchored") fI "NotAnchored" "value" ∧ Fun K "__init__" "NotAnchored.__init__" sNotAnchoredu_initu fI fd ∧ Binds K fd ["self", "value"] []
  e_NoPlan : ∃ (fI : Addr) (fd : FuncData), ErrT K mg (atTop K "NoPlan") fI "NoPlan" "reason" ∧ Fun K "__init__" "NoPlan.__init__" sNoPlanu_initu fI fd ∧ Binds K fd ["self", "reason"] []
  e_Undecided : ∃ (fI : Addr) (fd : FuncData), ErrT K mg (atTop K "Undecided") fI "Undecided" "rings" ∧ Fun K "__init__" "Undecided.__init__" sUndecidedu_initu fI fd ∧ Binds K fd ["self", "rings"] []
  c_InvalidImage : ∃ u, mg "InvalidImage" = some u ∧ RelV (.ref (atTop K "InvalidImage")) u
  c_NotAnchored : ∃ u, mg "NotAnchored" = some u ∧ RelV (.ref (atTop K "NotAnchored")) u
  c_NoPlan : ∃ u, mg "NoPlan" = some u ∧ RelV (.ref (atTop K "NoPlan")) u
  c_NotRenaming : ∃ u, mg "NotRenaming" = some u ∧ RelV (.ref (atTop K "NotRenaming")) u
  c_RedoError : ∃ u, mg "RedoError" = some u ∧ RelV (.ref (atTop K "RedoError")) u
  c_Undecided : ∃ u, mg "Undecided" = some u ∧ RelV (.ref (atTop K "Undecided")) u
  e_NotRenaming : Err0 K mg (atTop K "NotRenaming") "NotRenaming"
  x_NotAnchored_NotAnchored : PySem.W.exmOne K (.ref (atTop K "NotAnchored")) (.ref (atTop K "NotAnchored")) = some true
  x_NoPlan_NoPlan : PySem.W.exmOne K (.ref (atTop K "NoPlan")) (.ref (atTop K "NoPlan")) = some true
  x_Undecided_NoPlan : PySem.W.exmOne K (.ref (atTop K "Undecided")) (.ref (atTop K "NoPlan")) = some false
  x_Undecided_Undecided : PySem.W.exmOne K (.ref (atTop K "Undecided")) (.ref (atTop K "Undecided")) = some true
local macro_rules | `(tactic| walk_at "hp") => `(tactic| first
  | assumption
  | exact upd_same
  | ((refine (upd_ne (by assumption)).trans ?_); walk_at "hp")
  | ((refine (upd_ne (Ne.symm (by assumption))).trans ?_); walk_at "hp")
  | ((refine Rv.back (by assumption) ?_); walk_at "hp")
  | ((refine Rv.Wg.lst (by assumption) (by assumption) ?_); walk_at "hp")
  | ((refine Rv.Wd.lst (by assumption) (by assumption) ?_); walk_at "hp"))
local macro_rules | `(tactic| walk_at "r1") => `(tactic| (first
  | ((with_reducible refine' rd_var ?hv ?_); (case hv => exact rfl))
  | with_reducible refine rd_c ?_
  | with_reducible refine rd_seq ?_
  | with_reducible refine rd_next ?_
  | with_reducible refine rd_asg ?_
  | with_reducible refine rd_name ?_
  | with_reducible refine rd_op ?_
  | with_reducible refine rd_un ?_
  | with_reducible refine rd_U ?_
  | with_reducible refine rd_I0 ?_
  | ((with_reducible refine' rd_I ?hc ?_); (case hc => first | exact .inr ⟨by decide, by decide⟩ | exact .inl ⟨by decide, by decide⟩ | exact ⟨by decide, by decide, by decide⟩ | exact ⟨by decide, by decide⟩ | (show (_ : Int) ≠ _; decide) | assumption))
  | ((with_reducible refine' rd_eq ?hc ?_); (case hc => exact rfl))
  | ((with_reducible refine' rd_ne ?hc ?_); (case hc => exact rfl))
  | with_reducible refine rd_test ?_
  | with_reducible refine rd_B ?_
  | with_reducible refine rd_k ?_
  | with_reducible refine rd_not ?_
  | with_reducible refine rd_notV ?_
  | with_reducible refine rd_and ?_
  | with_reducible refine rd_or ?_
  | with_reducible refine rd_andV ?_
  | with_reducible refine rd_orV ?_
  | with_reducible refine rd_if ?_
  | with_reducible refine rd_chain ?_
  | with_reducible refine rd_sub ?_
  | with_reducible refine rd_gcons ?_
  | with_reducible refine rd_gnil ?_
  | with_reducible refine rd_ret ?_
  | with_reducible refine rd_drop ?_
  | with_reducible refine rd_ifS ?_
  | with_reducible refine rd_cons ?_
  | with_reducible refine rd_nil ?_
  | with_reducible refine rd_CB ?_
  | with_reducible refine rd_call ?_
  | with_reducible refine rd_yes ?_
  | with_reducible refine rd_M1 ?_
  | with_reducible refine rd_intQ ?_
  | with_reducible refine rd_absQ ?_
  | with_reducible refine rd_minQ ?_
  | ((with_reducible refine' rd_tupQ ?hz ?_); (case hz => walk_at "hp"))
  | with_reducible refine rd_for ?_
  | with_reducible refine rd_lc ?_
  | with_reducible refine rd_iTup ?_
  | with_reducible refine rd_iList ?_
  | with_reducible refine rd_iEnT ?_
  | with_reducible refine rd_iEnS ?_
  | with_reducible refine rd_iZpS ?_
  | with_reducible refine rd_iRg1 ?_
  | ((with_reducible refine' rd_ItT ?hz ?_); (case hz => walk_at "hp"))
  | ((with_reducible refine' rd_ItL ?hz ?_); (case hz => walk_at "hp"))
  | ((with_reducible refine' rd_EnT ?hz ?_); (case hz => walk_at "hp"))
  | with_reducible refine rd_EnS ?_
  | with_reducible refine rd_ZpS ?_
  | ((with_reducible refine' rd_ixS ?hz ?he ?_); (case hz => assumption); (case he => assumption))
  | ((with_reducible refine' rd_lenZ ?hz ?_); (case hz => assumption))
  | ((with_reducible refine' rd_Rg1 ?hz ?_); (case hz => assumption))
  | with_reducible refine rd_sgn ?_
  | with_reducible refine rd_sl ?_
  | with_reducible refine rd_noP ?_
  | with_reducible refine rd_part ?_
  | with_reducible refine rd_i ?_
  | ((with_reducible refine' iteD ?hz ?_); (case hz => assumption))
  | ((with_reducible refine' iteE ?hz ?_); (case hz => assumption))
  | ((with_reducible refine' iteNS ?hz ?_); (case hz => assumption))
  | ((with_reducible refine' iteN2 ?hz ?_); (case hz => assumption))
  | with_reducible refine iteT ?_
  | with_reducible refine iteF ?_
  | with_reducible refine iteNT ?_
  | with_reducible refine iteNF ?_
  | ((with_reducible refine' rd_isiI ?hk ?_); (case hk => first | exact kit_ii | exact kit_ib))
  | ((with_reducible refine' rd_isiB ?hk ?_); (case hk => first | exact kit_bb | exact kit_bi))
  | ((with_reducible refine' rd_isiT ?hz ?hk ?_); (case hz => walk_at "hp"); (case hk => exact kit_tt))
  | ((with_reducible refine' rd_isiL ?hz ?hk ?_); (case hz => walk_at "hp"); (case hk => exact kit_ll))
  | ((with_reducible refine' rd_lenT ?hz ?_); (case hz => walk_at "hp"))
  | ((with_reducible refine' rd_lenL ?hz ?_); (case hz => walk_at "hp"))
  | ((with_reducible refine' rd_ixT ?hz ?he ?_); (case hz => walk_at "hp"); (case he => first | exact rfl | assumption))
  | ((with_reducible refine' rd_ixM ?hz ?he ?_); (case hz => walk_at "hp"); (case he => first | exact rfl | assumption))
  | ((with_reducible refine' rd_setL ?hz ?he ?_); (case hz => walk_at "hp"); (case he => first | exact rfl | assumption))
  | ((with_reducible refine' rd_gtup ?hz ?he ?_); (case hz => walk_at "hp"); (case he => first | exact rfl | assumption))
  ))
local macro_rules | `(tactic| walk_at "rd") => `(tactic| repeat (walk_at "r1"))
local macro_rules | `(tactic| walk_at "re") => `(tactic| repeat (first
  | walk_at "r1"
  | ((with_reducible refine' rd_BMv ?hv ?hz ?_); (case hv => exact rfl); (case hz => walk_at "hp"))
  | ((with_reducible refine' rd_app ?hz ?hl ?_); (case hz => walk_at "hp"); (case hl => assumption))
  | with_reducible refine rd_iStr ?_
  | with_reducible refine rd_ItS ?_
  ))
local macro_rules | `(tactic| walk_at "rn") => `(tactic| repeat (first
  | walk_at "r1"
  | ((with_reducible refine' rd_BMv ?hv ?hz ?_); (case hv => exact rfl); (case hz => walk_at "hp"))
  | ((with_reducible refine' rd_app ?hz ?hl ?_); (case hz => walk_at "hp"); (case hl => assumption))
  | with_reducible refine rd_iStr ?_
  | with_reducible refine rd_ItS ?_
  | with_reducible refine rd_isN ?_
  | with_reducible refine rd_raise ?_
  | with_reducible refine rd_mkO ?_
  | with_reducible refine rd_callS ?_
  | with_reducible refine rd_xfQ ?_
  | with_reducible refine rd_tryM ?_
  | ((with_reducible refine' rd_truLv ?hv ?hz ?_); (case hv => exact rfl); (case hz => walk_at "hp"))
  ))
local macro_rules | `(tactic| walk_at "rx") => `(tactic| repeat (first
  | ((with_reducible refine' rd_var ?hv ?_); (case hv => exact rfl))
  | with_reducible refine rd_cons ?_
  | with_reducible refine rd_op ?_
  | with_reducible refine rd_nil ?_
  | with_reducible refine rd_c ?_
  | with_reducible refine rd_seq ?_
  | with_reducible refine rd_name ?_
  | with_reducible refine rd_call ?_
  | with_reducible refine rd_asg ?_
  | with_reducible refine rd_CB ?_
  | with_reducible refine rd_ifS ?_
  | with_reducible refine rd_test ?_
  | with_reducible refine rd_k ?_
  | with_reducible refine rd_ret ?_
  | with_reducible refine rd_I0 ?_
  | with_reducible refine rd_next ?_
  | with_reducible refine iteT ?_
  | with_reducible refine iteF ?_
  | ((with_reducible refine' rd_isG ?hz ?_); (case hz => assumption))
  | ((with_reducible refine' rd_ixO ?hz ?he ?_); (case hz => assumption); (case he => first | exact rfl | assumption))
  | with_reducible refine rd_sk ?_
  | with_reducible refine rd_iStr ?_
  | with_reducible refine rd_ItS ?_
  | ((with_reducible refine' rd_lenO ?hz ?_); (case hz => assumption))
  | ((with_reducible refine' rd_isO ?hz ?_); (case hz => assumption))
  | with_reducible refine rd_iEnO ?_
  | with_reducible refine rd_iEnP ?_
  | with_reducible refine rd_intOI ?_
  | ((with_reducible refine' rd_lstO ?hz ?_); (case hz => assumption))
  | ((with_reducible refine' rd_ItO ?hz ?_); (case hz => assumption))
  | with_reducible refine rd_iZpA ?_
  | with_reducible refine rd_tupN ?_
  | with_reducible refine rd_lstN ?_
  | with_reducible refine rd_dnew ?_
  | ((with_reducible refine' rd_lstLN ?hz ?_); (case hz => walk_at "hp"))
  | ((with_reducible refine' rd_tupLN ?hz ?_); (case hz => walk_at "hp"))
  | ((with_reducible refine' rd_slLN ?hz ?_); (case hz => walk_at "hp"))
  | walk_at "r1"
  | ((with_reducible refine' rd_BMv ?hv ?hz ?_); (case hv => exact rfl); (case hz => walk_at "hp"))
  | ((with_reducible refine' rd_app ?hz ?hl ?_); (case hz => walk_at "hp"); (case hl => assumption))
  | with_reducible refine rd_iStr ?_
  | with_reducible refine rd_ItS ?_
  | with_reducible refine rd_isN ?_
  | with_reducible refine rd_raise ?_
  | with_reducible refine rd_mkO ?_
  | with_reducible refine rd_callS ?_
  | with_reducible refine rd_xfQ ?_
  | with_reducible refine rd_tryM ?_
  | ((with_reducible refine' rd_truLv ?hv ?hz ?_); (case hv => exact rfl); (case hz => walk_at "hp"))
  ))
section
variable {P : Program} {w : World} {K : PySem.W.Frag} {mg : Str → Option Value} {base : Heap}
def sp_law_box (K : PySem.W.Frag) : Sp := fun vs H Q _ => ∃ (a : Addr) (ns : List Int), vs = [.ref a] ∧ SqL K H a (ns.map V.int) ∧ ns.length ≤ 63 ∧ ∀ H' B, IsBag B → B.I H' → Same H H' → Q (.ref B.b) H'
set_option maxHeartbeats 4000000 in
theorem ok_law_box (T : Top K mg) {f : Addr} {fd : FuncData} (D : Def K mg "_law_box" s_law_box ["script"] f fd) : FnOk P w K mg base CX0 1 f fd ["script"] (sp_law_box K) := by
  refine D.F.ok sc_law_box (fun vs H Q E h => ?_) (fun cdv A outer s H vs Q E hr h => ?_)
  · obtain ⟨a, ns, rfl, _⟩ := h
    rfl
  · obtain ⟨a, ns, rfl, hS, hl, q⟩ := h
    refine ⟨_, (pss_cons (ps_set (i := 1) sc_law_box.nd rfl (.inl rfl) (pe_callTy (r := rLstQ K) call_lstQ (by rfl) T.b_list (by decide +kernel) (pa_cons (pe_slice sl_list (pv 0) po_none (po_some pe_int)) pa_nil)))
    (pss_one (ps_ret (pe_lst (pa_cons (pv 1) (pa_cons pe_int (pa_cons pe_int (pa_cons pe_int (pa_cons (pe_op op_modN (pe_callTy (r := rIntO) call_intO (by rfl) T.b_int (by decide +kernel) (pa_cons (pe_callB (cr_sum rfl) (by rfl) T.b_sum (by decide +kernel) (pa_cons (pv 1) pa_nil)) pa_nil)) pe_int) pa_nil))))))))), ?_⟩
    walk_at "rx"
    refine rd_slL hS fun l nl => ?_
    obtain ⟨ms, em, hm⟩ : ∃ ms : List Int, cutV (ns.map V.int) none (some 63) = ms.map V.int ∧ ms.length ≤ 63 := by
      refine ⟨ns.take (HT.sIx (ns.map V.int).length (ns.map V.int).length (some 63) - 0), ?_, ?_⟩
      · unfold cutV
        show List.take _ (List.drop 0 (ns.map V.int)) = _
        rw [List.drop_zero, List.map_take]
        rfl
      · rw [List.length_take]
        omega
    rw [em]
    obtain ⟨H1, eH, S1, h1⟩ := new_gen (.lst (ms.map V.int)) nl
    rw [← eH]
    walk_at "rx"
    refine rd_newL fun H2 D S2 nD hD => ?_
    walk_at "rx"
    refine ⟨D, ms, rfl, SqL.of hD, ?_⟩
    walk_at "rx"
    refine rd_newQ (by simp) fun H4 p S4 np hp => ?_
    have n : p ≠ D := fun z => by rw [z, hD] at np; cases np
    exact q H4 (bgL p D ms n) ⟨p, D, ms, n, rfl⟩ ⟨S4 _ _ hD, 0, 0, 0, _, hp, Int.le_refl _⟩ ((S1.trans S2).trans S4)
def sp_law_take (_K : PySem.W.Frag) : Sp := fun vs H Q _ => ∃ (B : Box) (m : Int), vs = [.ref B.b, .int m] ∧ IsBag B ∧ B.I H ∧ 0 < m ∧ m ≤ 10 ^ 30 ∧ ∀ H' (d : Nat), Wg B H H' → (d : Int) < m → Q (.int d) H'
set_option maxHeartbeats 4000000 in
theorem ok_law_take (T : Top K mg) {f : Addr} {fd : FuncData} (D : Def K mg "_law_take" s_law_take ["box", "many"] f fd) : FnOk P w K mg base CX0 1 f fd ["box", "many"] (sp_law_take K) := by
  refine D.F.ok sc_law_take (fun vs H Q E h => ?_) (fun cdv A outer s H vs Q E hr h => ?_)
  · obtain ⟨B, m, rfl, _⟩ := h
    rfl
  · obtain ⟨B, m, rfl, ⟨b, c, ns, nbc, rfl⟩, i0, m0, m1, q0⟩ := h
    have q : ∀ H' (d : Int), Wg (bgL b c ns nbc) H H' → 0 ≤ d → d < m → Q (.int d) H' := fun H' d w h0 h1 => by
      have z := q0 H' d.toNat w (by omega)
      rw [show ((d.toNat : Nat) : Int) = d by omega] at z
      exact z
    have w0 := Wg.refl i0
    have ⟨hc, i, bu, se, cn, hb, hi0⟩ := i0
    have m9 : m ≠ 0 := by omega
    show _
    refine ⟨_, (pss_cons (ps_set (i := 2) sc_law_take.nd rfl (.inl rfl) (pe_ix (r := rIxL K) ix_list (pv 0) pe_int (fun _ _ => rfl)))
    (pss_cons (ps_asg (pe_op op_add (pe_ix (r := rIxL K) ix_list (pv 0) pe_int (fun _ _ => rfl)) pe_int) (pg_sub (pv 0) pe_int set_list))
    (C8.pss_cut (ps_if (PW.pt (pw_and (pt_cmpR op_eq (pe_ix (r := rIxL K) ix_list (pv 0) pe_int (fun _ _ => rfl)) pe_int (nomark _)) (pw_and (pt_cmpR op_lt (pe_ix (r := rIxL K) ix_list (pv 0) pe_int (fun _ _ => rfl)) (pe_callB (r := rLenQ K) call_lenQ (by rfl) T.b_len PySem.boot_len (pa_cons (pv 2) pa_nil)) (nomark _)) (pw_and1 (pt_cmpR op_ge (pe_callB call_absQ (by rfl) T.b_abs (by decide +kernel) (pa_cons (pe_ix (r := rIxL K) ix_list (pv 2) (pe_ix (r := rIxL K) ix_list (pv 0) pe_int (fun _ _ => rfl)) (fun _ _ => rfl)) pa_nil)) (pe_op op_pow pe_int pe_int) (nomark _)))))) (pss_cons (ps_asg (pe_callB call_absQ (by rfl) T.b_abs (by decide +kernel) (pa_cons (pe_ix (r := rIxL K) ix_list (pv 2) (pe_ix (r := rIxL K) ix_list (pv 0) pe_int (fun _ _ => rfl)) (fun _ _ => rfl)) pa_nil)) (pg_sub (pv 0) pe_int set_list))
    (pss_one (ps_asg (pe_op op_add (pe_ix (r := rIxL K) ix_list (pv 0) pe_int (fun _ _ => rfl)) pe_int) (pg_sub (pv 0) pe_int set_list)))) pss_nil)
    (pss_cons (ps_if (pt_cmpR op_gt (pe_ix (r := rIxL K) ix_list (pv 0) pe_int (fun _ _ => rfl)) pe_int (nomark _)) (pss_cons (ps_set (i := 3) sc_law_take.nd rfl (.inl rfl) (pe_op op_modN (pe_callTy call_intQ (by rfl) T.b_int (by decide +kernel) (pa_cons (pe_ix (r := rIxL K) ix_list (pv 0) pe_int (fun _ _ => rfl)) pa_nil)) (pv 1)))
    (pss_cons (ps_asg (pe_op op_fdivV (pe_ix (r := rIxL K) ix_list (pv 0) pe_int (fun _ _ => rfl)) (pv 1)) (pg_sub (pv 0) pe_int set_list))
    (pss_one (ps_ret (pv 3))))) pss_nil)
    (pss_cons (ps_set (i := 4) sc_law_take.nd rfl (.inl rfl) (pe_ix (r := rIxL K) ix_list (pv 0) pe_int (fun _ _ => rfl)))
    (C8.pss_cut (ps_if (pt_cmpR op_lt (pe_ix (r := rIxL K) ix_list (pv 0) pe_int (fun _ _ => rfl)) (pe_callB (r := rLenQ K) call_lenQ (by rfl) T.b_len PySem.boot_len (pa_cons (pv 2) pa_nil)) (nomark _)) (pss_cons (ps_set (i := 4) sc_law_take.nd rfl (.inl rfl) (pe_op op_add (pv 4) (pe_ix (r := rIxL K) ix_list (pv 2) (pe_ix (r := rIxL K) ix_list (pv 0) pe_int (fun _ _ => rfl)) (fun _ _ => rfl))))
    (pss_one (ps_if (pt_cmpR op_eq (pe_op op_modN (pe_callTy call_intQ (by rfl) T.b_int (by decide +kernel) (pa_cons (pe_ix (r := rIxL K) ix_list (pv 0) pe_int (fun _ _ => rfl)) pa_nil)) pe_int) pe_int (nomark _)) (pss_one (ps_asg (pe_op op_add (pe_ix (r := rIxL K) ix_list (pv 0) pe_int (fun _ _ => rfl)) pe_int) (pg_sub (pv 0) pe_int set_list))) pss_nil))) pss_nil)
    (pss_cons (ps_set (i := 5) sc_law_take.nd rfl (.inl rfl) (pe_op op_modN (pe_callTy call_intQ (by rfl) T.b_int (by decide +kernel) (pa_cons (pe_op op_add (pe_op op_add (pe_op op_mul (pv 4) pe_int) (pe_op op_mul (pe_ix (r := rIxL K) ix_list (pv 0) pe_int (fun _ _ => rfl)) pe_int)) pe_int) pa_nil)) pe_int))
    (pss_cons (ps_set (i := 6) sc_law_take.nd rfl (.inl rfl) (pe_op op_modN (pe_callTy call_intQ (by rfl) T.b_int (by decide +kernel) (pa_cons (pe_op op_add (pe_op op_add (pe_op op_mul (pv 5) (pe_op op_add (pe_op op_fdivN (pv 5) pe_int) pe_int)) (pe_op op_mul (pe_ix (r := rIxL K) ix_list (pv 0) pe_int (fun _ _ => rfl)) pe_int)) (pv 4)) pa_nil)) pe_int))
    (pss_one (ps_ret (pe_op op_modN (pe_callTy call_intQ (by rfl) T.b_int (by decide +kernel) (pa_cons (pe_op op_fdivN (pv 6) pe_int) pa_nil)) (pv 1)))))))))))), ?_⟩
    have hvb : (bgL b c ns nbc).b = b := rfl
    rw [hvb]
    walk_at "rx"
    have w1 : Wg (bgL b c ns nbc) H (upd H b (.lst ([V.ref c, .int i, .int bu, .int se, .int cn].set 3 (.int (se + 1))))) := bgL_put w0 hi0
    refine ⟨fun σ' H' => σ' = [some (.ref b), some (.int m), some (.ref c), none, none, none, none] ∧ Wg (bgL b c ns nbc) H H', ?_, ?_⟩
    · walk_at "rx"
      refine ite2 (fun z => ?_) (fun z => ?_)
      · walk_at "rx"
        refine ite2 (fun x => ?_) (fun x => ?_)
        · have y1 : i < ((ns.map V.int).length : Int) := of_decide_eq_true x
          obtain ⟨v, e1, e2, e3⟩ := atI_int hi0 y1
          obtain ⟨k, _, rfl⟩ := List.mem_map.mp e3
          walk_at "rx"
          refine ite2 (fun u => ?_) (fun u => ?_)
          · walk_at "rx"
            exact ⟨rfl, bgL_put (bgL_put w1 hi0) (by omega)⟩
          · walk_at "rx"
            exact ⟨rfl, w1⟩
        · walk_at "rx"
          exact ⟨rfl, w1⟩
      · walk_at "rx"
        exact ⟨rfl, w1⟩
    · rintro σ' H' ⟨rfl, w⟩
      have ⟨hc', i', bu', se', cn', hb', hi'⟩ := w.i1
      walk_at "rx"
      refine ite2 (fun z => ?_) (fun z => ?_)
      · walk_at "rx"
        refine rd_I (show CDivV bu' m from ⟨m0, m1⟩) ?_
        walk_at "rx"
        exact q _ _ (bgL_put w hi') (fmod_in m0).1 (fmod_in m0).2
      · have cm : ∀ a b : Int, CMul (a.fmod 2147483647) b := fun a b => .inl ⟨by have := fmod_in (a := a) (m := 2147483647) (by decide); omega, by have := fmod_in (a := a) (m := 2147483647) (by decide); omega⟩
        walk_at "rx"
        refine ⟨fun σ' H2 => ∃ nu : Int, σ' = [some (.ref b), some (.int m), some (.ref c), none, some (.int nu), none, none] ∧ Wg (bgL b c ns nbc) H H2, ?_, ?_⟩
        · walk_at "rx"
          refine ite2 (fun x => ?_) (fun x => ?_)
          · have y1 : i' < ((ns.map V.int).length : Int) := of_decide_eq_true x
            obtain ⟨v, e1, e2, e3⟩ := atI_int hi' y1
            obtain ⟨k, _, rfl⟩ := List.mem_map.mp e3
            walk_at "rx"
            refine ite2 (fun u => ?_) (fun u => ?_)
            · walk_at "rx"
              exact ⟨_, rfl, bgL_put w (by omega)⟩
            · walk_at "rx"
              exact ⟨_, rfl, w⟩
          · walk_at "rx"
            exact ⟨_, rfl, w⟩
        rintro σ2 H2 ⟨nu, rfl, w2⟩
        have ⟨hc2, i2, bu2, se2, cn2, hb2, hi2⟩ := w2.i1
        walk_at "rx"
        refine rd_I (cm _ _) ?_
        walk_at "rx"
        exact q _ _ w2 (fmod_in m0).1 (fmod_in m0).2
def sp_law_values (_K : PySem.W.Frag) : Sp := fun vs H Q _ => ∃ (B : Box) (m c : Nat), vs = [.ref B.b, .int (m : Int), .int (c : Int)] ∧ IsBag B ∧ B.I H ∧ m ≤ 12 ∧ 1 ≤ c ∧ c ≤ 12 ∧ ∀ H' D (xs : List Int), Wg B H H' → H D = none → H' D = some (.lst (xs.map V.int)) → xs.length = m → xs.Nodup → (∀ x ∈ xs, 0 ≤ x ∧ x ≤ 999) → Q (.ref D) H'
set_option maxHeartbeats 4000000 in
theorem ok_law_values (T : Top K mg) {f : Addr} {fd : FuncData} (D : Def K mg "_law_values" s_law_values ["box", "count", "kinds"] f fd) : FnOk P w K mg base CX0 2 f fd ["box", "count", "kinds"] (sp_law_values K) := by
  obtain ⟨f_law_take, fd_law_take, D_law_take⟩ := T.d__law_take
  have G_law_take : FnOk P w K mg base CX0 1 f_law_take fd_law_take ["box", "many"] (sp_law_take K) := ok_law_take T D_law_take
  refine D.F.ok sc_law_values (fun vs H Q E h => ?_) (fun cdv A outer s H vs Q E hr h => ?_)
  · obtain ⟨B, m, c, rfl, _⟩ := h
    rfl
  · obtain ⟨B, m, c, rfl, hB, i0, m12, c1, c12, q⟩ := h
    have hr1 : -100000 ≤ (m : Int) ∧ (m : Int) ≤ 100000 := by omega
    have hr2 : -100000 ≤ (c : Int) ∧ (c : Int) ≤ 100000 := by omega
    refine ⟨_, (pss_cons (ps_setLc (i := 4) (own := [("k", 3)]) (g := gName 3) (tt := tYes) rfl sc_law_values.nd rfl rfl (sw_true rfl rfl rfl (by decide +kernel)) (pi_range1 (by rfl) T.b_range (pa_cons (pv 2) pa_nil))
      (blkOk_by (own := [("k", 3)]) (N := ["box", "count", "kinds", "k", "menu", "row", "value", "turn"]) (sc := defScope s_law_values) (by decide +kernel)) (fun _ _ _ _ _ => (pg_name (i := 3) sc_law_values.nd rfl (.inl rfl))) (fun _ _ _ _ _ => pts_nil)
      (fun _ _ _ _ _ => (pe_call G_law_take hr (by rfl) D_law_take.g D_law_take.F.kp D_law_take.b .nil pass0 (pa_cons (pv 0) (pa_cons pe_int pa_nil)))))
    (pss_cons (ps_set (i := 5) sc_law_values.nd rfl (.inl rfl) (pe_lst pa_nil))
    (pss_cons (ps_for PassesOwn.never rfl (pi_range1 (by rfl) T.b_range (pa_cons (pv 1) pa_nil)) (pg_name (i := 3) sc_law_values.nd rfl (.inl rfl)) (pss_cons (ps_set (i := 6) sc_law_values.nd rfl (.inl rfl) (pe_op op_add (pe_op op_mul (pe_ix (r := rIxL K) ix_list (pv 4) (pe_call G_law_take hr (by rfl) D_law_take.g D_law_take.F.kp D_law_take.b .nil pass0 (pa_cons (pv 0) (pa_cons (pv 2) pa_nil))) (fun _ _ => rfl)) pe_int) (pe_call G_law_take hr (by rfl) D_law_take.g D_law_take.F.kp D_law_take.b .nil pass0 (pa_cons (pv 0) (pa_cons pe_int pa_nil)))))
    (pss_cons (ps_for PassesOwn.never rfl (pi_range1 (by rfl) T.b_range (pa_cons (pv 1) pa_nil)) (pg_name (i := 7) sc_law_values.nd rfl (.inl rfl)) (pss_one (ps_if (pt_cmpR (r := rIn K false) op_in_seq (pv 6) (pv 5) (by rfl)) (pss_one (ps_set (i := 6) sc_law_values.nd rfl (.inl rfl) (pe_ifExp (pt_cmpR op_eq (pe_op op_modN (pe_callTy call_intQ (by rfl) T.b_int (by decide +kernel) (pa_cons (pv 6) pa_nil)) pe_int) pe_int (nomark _)) (pe_op op_sub (pv 6) pe_int) (pe_op op_add (pv 6) pe_int)))) pss_nil)))
    (pss_one (ps_expr (pe_bm PySem.F.plainAttrs_list PySem.F.slot_list_append PySem.F.type_list_append mt_append (pv 5) (pa_cons (pv 6) pa_nil)))))))
    (pss_one (ps_ret (pv 5)))))), ?_⟩
    walk_at "rx"
    rw [show ((c : Int)).toNat = c by omega]
    refine lc_wg walk_rng i0 (fun i acc _ => i ≤ c ∧ ∃ ks : List Nat, acc = nvs ks ∧ ks.length = i ∧ ∀ k ∈ ks, k < 10) (fun _ _ => ⟨Nat.zero_le _, [], rfl, rfl, fun c hc => absurd hc List.not_mem_nil⟩) (fun i acc Ha Hb _ p => p) ?_ (fun _ _ => trivial) ?_ ?_
    · rintro i acc Ha ⟨ic, ks, rfl, lk, _⟩
      rw [nvs_len]
      omega
    · rintro i x Ha Hb acc Qc R hi wa ⟨ic, ks, rfl, lk, k10⟩ ⟨rfl, rfl⟩ qc rc
      walk_at "rx"
      refine ⟨rfl, ?_⟩
      walk_at "rx"
      refine ⟨B, 10, rfl, hB, wa.i1, by decide, by decide, fun Hc d wc hd => ?_⟩
      refine qc _ _ wc ⟨hi, ks ++ [d], by rw [nvs_app]; rfl, by rw [List.length_append, lk]; rfl, fun x hx => ?_⟩
      rcases List.mem_append.mp hx with y | y
      · exact k10 x y
      · rw [List.mem_singleton.mp y]; omega
    rintro H3 M acc w3 nM hM ⟨_, ks, rfl, lk, k10⟩
    walk_at "rx"
    refine rd_newQ (by simp) fun H4 D S4 nD hD => ?_
    have w4 := w3.same S4
    have mD : D ∉ B.m := B.nem w3.i1 nD
    have nD0 := w3.free nD
    have mM : M ∉ B.m := B.nem i0 nM
    have hM4 := S4 _ _ hM
    have nMD : M ≠ D := fun z => by rw [← z, hM] at nD; cases nD
    walk_at "rx"
    rw [show ((m : Int)).toNat = m by omega]
    refine fr_rng0 (fun i σ H' => ∃ (xs : List Int) (y3 y6 y7 : Option V), σ = [some (.ref B.b), some (.int (m : Int)), some (.int (c : Int)), y3, some (.ref M), some (.ref D), y6, y7] ∧ Wg B H H' ∧ H' M = some (.lst (nvs ks)) ∧ H' D = some (.lst (xs.map V.int)) ∧ xs.length = i ∧ xs.Nodup ∧ ∀ x ∈ xs, 0 ≤ x ∧ x ≤ 999) ⟨[], _, none, none, rfl, w4, hM4, hD, rfl, List.nodup_nil, fun x hx => by cases hx⟩ ?_ ?_
    · rintro i σ Ha hi ⟨xs, y3, y6, y7, rfl, wa, hMa, hDa, lx, nd, rg⟩
      walk_at "rx"
      refine ⟨B, (c : Int), rfl, hB, wa.i1, by omega, by omega, fun Hb d wb hd => ?_⟩
      have hMb := wb.lst mM hMa
      have dl : d < ks.length := by omega
      have dk := k10 _ (List.getElem_mem dl)
      have ek : atI (nvs ks) ((d : Nat) : Int) = some (V.int (ks[d] : Int)) := nvs_atI (List.getElem?_eq_getElem dl)
      walk_at "rx"
      refine ⟨B, 100, rfl, hB, wb.i1, by decide, by decide, fun Hc e wc he => ?_⟩
      have hDc := wc.lst mD (wb.lst mD hDa)
      have hMc := wc.lst mM hMb
      have wac := (wa.trans wb).trans wc
      have v0' : 0 ≤ (ks[d] : Int) * 100 + (e : Int) := by omega
      have v1' : (ks[d] : Int) * 100 + (e : Int) ≤ 999 := by omega
      walk_at "rx"
      generalize (ks[d] : Int) * 100 + (e : Int) = v at *
      rw [show ((m : Int)).toNat = m by omega]
      refine fr_rng0 (fun j σ H' => ∃ (k : Nat) (u : Int) (y7 : Option V), σ = [some (.ref B.b), some (.int (m : Int)), some (.int (c : Int)), some (.int (i : Int)), some (.ref M), some (.ref D), some (.int u), y7] ∧ H' = Hc ∧ Cand (c100 v) xs k j u) ⟨0, v, y7, rfl, rfl, by have := Cand.zero (c := c100 v) (found := xs); rw [c100_zero] at this; exact this⟩ ?_ ?_
      · rintro j σ H' hj ⟨k, u, y7, rfl, rfl, cd⟩
        have ur : 0 ≤ u ∧ u ≤ 999 := by rw [cd.eq]; exact c100_in v0' v1' k
        have st := c100_step ur.1 ur.2
        walk_at "rx"
        refine rd_inLf hDc rfl (ints_flat xs) ?_
        rw [inV_ints]
        by_cases z : u ∈ xs
        · rw [decide_eq_true z]
          have cs := cd.step z
          rw [c100_next, ← cd.eq] at cs
          walk_at "rx"
          by_cases y : u.fmod 100 = 99
          · rw [decide_eq_true (show V.int (u.fmod 100) = V.int 99 by rw [y])]
            walk_at "rx"
            rw [st.1 y] at cs
            exact ⟨k + 1, _, _, rfl, rfl, cs⟩
          · rw [decide_eq_false (show ¬ V.int (u.fmod 100) = V.int 99 from fun w => y (V.int.inj w))]
            walk_at "rx"
            rw [st.2 y] at cs
            exact ⟨k + 1, _, _, rfl, rfl, cs⟩
        · rw [decide_eq_false z]
          walk_at "rx"
          exact ⟨k, u, _, rfl, rfl, cd.stay z⟩
      · rintro σ H' ⟨k, u, y7, rfl, rfl, cd⟩
        have ur : 0 ≤ u ∧ u ≤ 999 := by rw [cd.eq]; exact c100_in v0' v1' k
        have nu := cd.done (by omega) (fun a b ha hb e => c100_inj v a b (by omega) (by omega) e)
        have l1000 : (xs.map V.int).length < 1000 := by rw [List.length_map]; omega
        walk_at "rx"
        refine ⟨xs ++ [u], _, _, _, rfl, wac.mut nD0, ?_, by rw [upd_same, List.map_append]; rfl, by rw [List.length_append, lx]; rfl, ?_, fun x hx => ?_⟩
        · rw [upd_ne nMD]
          exact hMc
        · rw [List.nodup_append]
          exact ⟨nd, by simp, fun a ha b hb e => nu (by rw [← List.mem_singleton.mp hb, ← e]; exact ha)⟩
        · rcases List.mem_append.mp hx with y | y
          · exact rg x y
          · rw [List.mem_singleton.mp y]; exact ur
    · rintro σ Ha ⟨xs, y3, y6, y7, rfl, wa, hMa, hDa, lx, nd, rg⟩
      walk_at "rx"
      exact q Ha D xs wa nD0 hDa lx nd rg
def sp_law_mixture (_K : PySem.W.Frag) : Sp := fun vs H Q _ => ∃ (B : Box) (l : Addr) (xs : List Int), vs = [.ref B.b, .ref l] ∧ IsBag B ∧ B.I H ∧ l ∉ B.m ∧ H l = some (.lst (xs.map V.int)) ∧ xs.length ≤ 12 ∧ ∀ H' D (ys : List Int), Wg B H H' → H D = none → H' D = some (.lst (ys.map V.int)) → ys.Perm xs → Q (.ref D) H'
set_option maxHeartbeats 4000000 in
theorem ok_law_mixture (T : Top K mg) {f : Addr} {fd : FuncData} (D : Def K mg "_law_mixture" s_law_mixture ["box", "row"] f fd) : FnOk P w K mg base CX0 2 f fd ["box", "row"] (sp_law_mixture K) := by
  obtain ⟨f_law_take, fd_law_take, D_law_take⟩ := T.d__law_take
  have G_law_take : FnOk P w K mg base CX0 1 f_law_take fd_law_take ["box", "many"] (sp_law_take K) := ok_law_take T D_law_take
  refine D.F.ok sc_law_mixture (fun vs H Q E h => ?_) (fun cdv A outer s H vs Q E hr h => ?_)
  · obtain ⟨B, l, xs, rfl, _⟩ := h
    rfl
  · obtain ⟨B, l, xs, rfl, hB, i0, ml, hl, l12, q⟩ := h
    have hr1 : -100000 ≤ (((xs.map V.int).length : Nat) : Int) ∧ (((xs.map V.int).length : Nat) : Int) ≤ 100000 := by rw [List.length_map]; omega
    refine ⟨_, (pss_cons (ps_set (i := 2) sc_law_mixture.nd rfl (.inl rfl) (pe_lst pa_nil))
    (pss_cons (ps_set (i := 3) sc_law_mixture.nd rfl (.inl rfl) (pe_callTy (r := rLstQ K) call_lstQ (by rfl) T.b_list (by decide +kernel) (pa_cons (pv 1) pa_nil)))
    (pss_cons (ps_for PassesOwn.never rfl (pi_range1 (by rfl) T.b_range (pa_cons (pe_callB (r := rLenQ K) call_lenQ (by rfl) T.b_len PySem.boot_len (pa_cons (pv 1) pa_nil)) pa_nil)) (pg_name (i := 4) sc_law_mixture.nd rfl (.inl rfl)) (pss_one (ps_expr (pe_bm PySem.F.plainAttrs_list PySem.F.slot_list_append PySem.F.type_list_append mt_append (pv 2) (pa_cons (pe_bm PySem.F.plainAttrs_list PySem.F.slot_list_pop PySem.F.type_list_pop mt_popQ (pv 3) (pa_cons (pe_call G_law_take hr (by rfl) D_law_take.g D_law_take.F.kp D_law_take.b .nil pass0 (pa_cons (pv 0) (pa_cons (pe_callB (r := rLenQ K) call_lenQ (by rfl) T.b_len PySem.boot_len (pa_cons (pv 3) pa_nil)) pa_nil))) pa_nil)) pa_nil)))))
    (pss_one (ps_ret (pv 2)))))), ?_⟩
    walk_at "rx"
    refine rd_newQ (by simp) fun H1 F S1 nF hF => ?_
    walk_at "rx"
    refine rd_newL fun H2 L S2 nL hL => ?_
    have w2 := (Wg.ofSame i0 S1).same S2
    have nF0 := nF
    have nL0 := S1.free nL
    have mF : F ∉ B.m := B.nem i0 nF
    have mL : L ∉ B.m := B.nem i0 nL0
    have hF2 := S2 _ _ hF
    have nFL : F ≠ L := fun z => by rw [← z, hF] at nL; cases nL
    have hl2 := S2 _ _ (S1 _ _ hl)
    walk_at "rx"
    refine fr_rng0 (fun i σ H' => ∃ (fs ls : List Int) (y4 : Option V), σ = [some (.ref B.b), some (.ref l), some (.ref F), some (.ref L), y4] ∧ Wg B H H' ∧ H' F = some (.lst (fs.map V.int)) ∧ H' L = some (.lst (ls.map V.int)) ∧ (fs ++ ls).Perm xs ∧ ls.length + i = xs.length) ⟨[], xs, none, rfl, w2, hF2, hL, List.Perm.refl _, rfl⟩ ?_ ?_
    · rintro i σ Ha hi ⟨fs, ls, y4, rfl, wa, hFa, hLa, pm, ln⟩
      have hi2 : i < xs.length := by rw [List.length_map] at hi; omega
      have lp := pm.length_eq
      rw [List.length_append] at lp
      have f13 : (((ls.map V.int).length : Nat) : Int) ≤ 10 ^ 30 := by rw [List.length_map]; omega
      walk_at "rx"
      refine ⟨B, (((ls.map V.int).length : Nat) : Int), rfl, hB, wa.i1, by rw [List.length_map]; omega, f13, fun Hc d wc hd => ?_⟩
      rw [List.length_map] at hd
      have hd2 : d < ls.length := by omega
      have hFc := wc.lst mF hFa
      have hLc := wc.lst mL hLa
      have ed : (ls.map V.int)[d]? = some (V.int ls[d]) := by rw [List.getElem?_map, List.getElem?_eq_getElem hd2]; rfl
      walk_at "rx"
      refine rd_popQ hLc ed (by omega) ?_
      have hF3 : (upd Hc L (.lst ((ls.map V.int).eraseIdx d))) F = some (.lst (fs.map V.int)) := by rw [upd_ne nFL]; exact hFc
      have w3 : Wg B H (upd Hc L (.lst ((ls.map V.int).eraseIdx d))) := (wa.trans wc).mut nL0
      have hL3 : (upd Hc L (.lst ((ls.map V.int).eraseIdx d))) L = some (.lst ((ls.eraseIdx d).map V.int)) := by rw [upd_same, ers_map]
      generalize upd Hc L (.lst ((ls.map V.int).eraseIdx d)) = H5 at *
      have lf : (fs.map V.int).length < 1000 := by rw [List.length_map]; omega
      walk_at "rx"
      refine ⟨fs ++ [ls[d]], ls.eraseIdx d, _, rfl, w3.mut nF0, by rw [upd_same, List.map_append]; rfl, by rw [upd_ne nFL.symm]; exact hL3, ?_, by rw [List.length_eraseIdx_of_lt hd2]; omega⟩
      rw [List.append_assoc]
      exact ((ers_perm hd2).append_left fs).trans pm
    · rintro σ Ha ⟨fs, ls, y4, rfl, wa, hFa, hLa, pm, ln⟩
      have l0 : ls = [] := List.length_eq_zero_iff.mp (by rw [List.length_map] at ln; omega)
      subst l0
      rw [List.append_nil] at pm
      walk_at "rx"
      exact q Ha F fs wa nF0 hFa pm
def sp_law_pair (_K : PySem.W.Frag) : Sp := fun vs H Q _ => ∃ (B : Box), vs = [.ref B.b] ∧ IsBag B ∧ B.I H ∧ ∀ H' t a b es fs, Wg B H H' → H' t = some (.tup [.ref a, .ref b]) → RP H' a b es fs → Q (.ref t) H'
set_option maxHeartbeats 4000000 in
theorem ok_law_pair (T : Top K mg) {f : Addr} {fd : FuncData} (D : Def K mg "_law_pair" s_law_pair ["box"] f fd) : FnOk P w K mg base CX0 3 f fd ["box"] (sp_law_pair K) := by
  obtain ⟨f_law_take, fd_law_take, D_law_take⟩ := T.d__law_take
  have G_law_take : FnOk P w K mg base CX0 1 f_law_take fd_law_take ["box", "many"] (sp_law_take K) := ok_law_take T D_law_take
  obtain ⟨f_law_values, fd_law_values, D_law_values⟩ := T.d__law_values
  have G_law_values : FnOk P w K mg base CX0 2 f_law_values fd_law_values ["box", "count", "kinds"] (sp_law_values K) := ok_law_values T D_law_values
  obtain ⟨f_law_mixture, fd_law_mixture, D_law_mixture⟩ := T.d__law_mixture
  have G_law_mixture : FnOk P w K mg base CX0 2 f_law_mixture fd_law_mixture ["box", "row"] (sp_law_mixture K) := ok_law_mixture T D_law_mixture
  refine D.F.ok sc_law_pair (fun vs H Q E h => ?_) (fun cdv A outer s H vs Q E hr h => ?_)
  · obtain ⟨B, rfl, _⟩ := h
    rfl
  · obtain ⟨B, rfl, hB, i0, q⟩ := h
    refine ⟨_, (pss_cons (ps_set (i := 1) sc_law_pair.nd rfl (.inl rfl) (pe_call G_law_take (hr.mono (by decide)) (by rfl) D_law_take.g D_law_take.F.kp D_law_take.b .nil pass0 (pa_cons (pv 0) (pa_cons pe_int pa_nil))))
    (pss_cons (ps_set (i := 2) sc_law_pair.nd rfl (.inl rfl) (pe_ifExp (pt_cmpR op_eq (pe_call G_law_take (hr.mono (by decide)) (by rfl) D_law_take.g D_law_take.F.kp D_law_take.b .nil pass0 (pa_cons (pv 0) (pa_cons pe_int pa_nil))) pe_int (nomark _)) (pe_op op_add pe_int (pe_call G_law_take (hr.mono (by decide)) (by rfl) D_law_take.g D_law_take.F.kp D_law_take.b .nil pass0 (pa_cons (pv 0) (pa_cons pe_int pa_nil)))) (pe_op op_add pe_int (pe_call G_law_take (hr.mono (by decide)) (by rfl) D_law_take.g D_law_take.F.kp D_law_take.b .nil pass0 (pa_cons (pv 0) (pa_cons pe_int pa_nil))))))
    (pss_cons (ps_set (i := 3) sc_law_pair.nd rfl (.inl rfl) pe_int)
    (C8.pss_cut (ps_if (pt_cmpR op_gt (pv 1) pe_int (nomark _)) (pss_one (ps_set (i := 3) sc_law_pair.nd rfl (.inl rfl) (pe_ifExp (pt_cmpR (r := rIn K false) op_in_seq (pv 1) (pe_lst (pa_cons pe_int (pa_cons pe_int (pa_cons pe_int pa_nil)))) (by rfl)) pe_int (pe_callB (call_minQ rfl) (by rfl) T.b_min (by decide +kernel) (pa_cons (pe_callB (call_max2 rfl) (by rfl) T.b_max (by decide +kernel) (pa_cons pe_int (pa_cons (pe_op op_sub (pv 2) pe_int) pa_nil))) (pa_cons (pe_op op_add pe_int (pe_call G_law_take (hr.mono (by decide)) (by rfl) D_law_take.g D_law_take.F.kp D_law_take.b .nil pass0 (pa_cons (pv 0) (pa_cons pe_int pa_nil)))) pa_nil)))))) pss_nil)
    (C8.pss_cut (ps_if (pt_cmpR op_eq (pv 1) pe_int (nomark _)) (pss_one (ps_set (i := 3) sc_law_pair.nd rfl (.inl rfl) (pe_callB (call_minQ rfl) (by rfl) T.b_min (by decide +kernel) (pa_cons (pe_op op_add pe_int (pe_call G_law_take (hr.mono (by decide)) (by rfl) D_law_take.g D_law_take.F.kp D_law_take.b .nil pass0 (pa_cons (pv 0) (pa_cons pe_int pa_nil)))) (pa_cons (pe_callB (call_max2 rfl) (by rfl) T.b_max (by decide +kernel) (pa_cons pe_int (pa_cons (pe_op op_sub (pv 2) pe_int) pa_nil))) pa_nil))))) pss_nil)
    (pss_cons (ps_set (i := 4) sc_law_pair.nd rfl (.inl rfl) (pe_ifExp (PW.pt (pw_or (pt_cmpR op_eq (pv 1) pe_int (nomark _)) (pw_or1 (pt_cmpR op_eq (pv 1) pe_int (nomark _))))) pe_int (pe_op op_add pe_int (pe_call G_law_take (hr.mono (by decide)) (by rfl) D_law_take.g D_law_take.F.kp D_law_take.b .nil pass0 (pa_cons (pv 0) (pa_cons pe_int pa_nil))))))
    (pss_cons (ps_set (i := 5) sc_law_pair.nd rfl (.inl rfl) (pe_call G_law_values hr (by rfl) D_law_values.g D_law_values.F.kp D_law_values.b .nil pass0 (pa_cons (pv 0) (pa_cons (pe_op op_sub (pv 2) (pv 3)) (pa_cons (pv 4) pa_nil)))))
    (pss_cons (ps_set (i := 6) sc_law_pair.nd rfl (.inl rfl) (pe_call G_law_mixture hr (by rfl) D_law_mixture.g D_law_mixture.F.kp D_law_mixture.b .nil pass0 (pa_cons (pv 0) (pa_cons (pe_op op_cat (pv 5) (pe_op op_rep (pe_lst (pa_cons (pe_un un_neg pe_int) pa_nil)) (pv 3))) pa_nil))))
    (pss_cons (ps_if (pt_cmpR op_eq (pv 1) pe_int (nomark _)) (pss_one (ps_ret (pe_tup (pa_cons (pe_callTy (r := rTupF K) call_tupF (by rfl) T.b_tuple (by decide +kernel) (pa_cons (pv 6) pa_nil)) (pa_cons (pe_callTy (r := rTupF K) call_tupF (by rfl) T.b_tuple (by decide +kernel) (pa_cons (pv 6) pa_nil)) pa_nil))))) pss_nil)
    (pss_cons (ps_if (pt_cmpR op_ne (pv 1) pe_int (nomark _)) (pss_one (ps_ret (pe_tup (pa_cons (pe_callTy (r := rTupF K) call_tupF (by rfl) T.b_tuple (by decide +kernel) (pa_cons (pv 6) pa_nil)) (pa_cons (pe_callTy (r := rTupF K) call_tupF (by rfl) T.b_tuple (by decide +kernel) (pa_cons (pe_call G_law_mixture hr (by rfl) D_law_mixture.g D_law_mixture.F.kp D_law_mixture.b .nil pass0 (pa_cons (pv 0) (pa_cons (pv 6) pa_nil))) pa_nil)) pa_nil))))) pss_nil)
    (pss_cons (ps_set (i := 7) sc_law_pair.nd rfl (.inl rfl) (pe_call G_law_mixture hr (by rfl) D_law_mixture.g D_law_mixture.F.kp D_law_mixture.b .nil pass0 (pa_cons (pv 0) (pa_cons (pv 5) pa_nil))))
    (pss_cons (ps_set (i := 8) sc_law_pair.nd rfl (.inl rfl) (pe_lst pa_nil))
    (pss_cons (ps_for PassesOwn.never rfl (pi_list (pv 6)) (pg_name (i := 9) sc_law_pair.nd rfl (.inl rfl)) (pss_one (ps_expr (pe_bm PySem.F.plainAttrs_list PySem.F.slot_list_append PySem.F.type_list_append mt_append (pv 8) (pa_cons (pe_ifExp (pt_cmpR op_eq (pv 9) (pe_un un_neg pe_int) (nomark _)) (pe_un un_neg pe_int) (pe_ix (r := rIxL K) ix_list (pv 7) (pe_bm PySem.F.plainAttrs_list PySem.F.slot_list_index PySem.F.type_list_index mt_index (pv 5) (pa_cons (pv 9) pa_nil)) (fun _ _ => rfl))) pa_nil)))))
    (pss_one (ps_ret (pe_tup (pa_cons (pe_callTy (r := rTupF K) call_tupF (by rfl) T.b_tuple (by decide +kernel) (pa_cons (pv 6) pa_nil)) (pa_cons (pe_callTy (r := rTupF K) call_tupF (by rfl) T.b_tuple (by decide +kernel) (pa_cons (pv 8) pa_nil)) pa_nil)))))))))))))))))), ?_⟩
    walk_at "rx"
    refine ⟨B, 9, rfl, hB, i0, by decide, by decide, fun H1 way w1 hw => ?_⟩
    walk_at "rx"
    refine ⟨B, 8, rfl, hB, w1.i1, by decide, by decide, fun H2 c2 w2 hc2 => ?_⟩
    walk_at "rx"
    have w12 := w1.trans w2
    refine if_cut (fun v H' => ∃ n : Nat, v = .int (n : Int) ∧ Wg B H2 H' ∧ 1 ≤ n ∧ n ≤ 8) (fun R' qR => ?_) ?_
    · refine ite2 (fun z => ?_) (fun z => ?_)
      · walk_at "rx"
        refine ⟨B, 3, rfl, hB, w2.i1, by decide, by decide, fun H3 d w3 hd => ?_⟩
        walk_at "rx"
        exact qR _ _ ⟨1 + d, by rw [show (1 : Int) + (d : Int) = ((1 + d : Nat) : Int) by omega], w3, by omega, by omega⟩
      · walk_at "rx"
        refine ⟨B, 6, rfl, hB, w2.i1, by decide, by decide, fun H3 d w3 hd => ?_⟩
        walk_at "rx"
        exact qR _ _ ⟨3 + d, by rw [show (3 : Int) + (d : Int) = ((3 + d : Nat) : Int) by omega], w3, by omega, by omega⟩
    rintro v H3 ⟨n, rfl, w3, n1, n8⟩
    have w13 := w12.trans w3
    walk_at "rx"
    refine ⟨fun σ' H' => ∃ e : Nat, σ' = [some (.ref B.b), some (.int (way : Int)), some (.int (n : Int)), some (.int (e : Int)), none, none, none, none, none, none] ∧ Wg B H H' ∧ e ≤ n, ?_, ?_⟩
    · walk_at "rx"
      refine ite2 (fun z => ?_) (fun z => ?_)
      · walk_at "rx"
        refine rd_newQ (by simp) fun H4 L4 S4 n4 h4 => ?_
        have w4 := w13.same S4
        refine rd_inLf h4 rfl rfl ?_
        walk_at "rx"
        refine ite2 (fun y => ?_) (fun y => ?_)
        · walk_at "rx"
          exact ⟨1, rfl, w4, n1⟩
        · walk_at "rx"
          refine ⟨_, _, rfl, ?_⟩
          walk_at "rx"
          refine ⟨B, 3, rfl, hB, w4.i1, by decide, by decide, fun H5 d w5 hd => ?_⟩
          obtain ⟨e, ee, el⟩ := emp1 n d n1
          walk_at "rx"
          exact ⟨e, by rw [ee]; rfl, w4.trans w5, el⟩
      · walk_at "rx"
        exact ⟨0, rfl, w13, Nat.zero_le _⟩
    rintro σ4 H4 ⟨e4, rfl, w4, le4⟩
    walk_at "rx"
    refine ⟨fun σ' H' => ∃ e : Nat, σ' = [some (.ref B.b), some (.int (way : Int)), some (.int (n : Int)), some (.int (e : Int)), none, none, none, none, none, none] ∧ Wg B H H' ∧ e ≤ n, ?_, ?_⟩
    · walk_at "rx"
      refine ite2 (fun z => ?_) (fun z => ?_)
      · walk_at "rx"
        refine ⟨B, 2, rfl, hB, w4.i1, by decide, by decide, fun H5 d w5 hd => ?_⟩
        walk_at "rx"
        refine ⟨_, _, rfl, ?_⟩
        obtain ⟨e, ee, el⟩ := emp2 n d n1
        walk_at "rx"
        exact ⟨e, by rw [ee]; rfl, w4.trans w5, el⟩
      · walk_at "rx"
        exact ⟨e4, rfl, w4, le4⟩
    rintro σ5 H5 ⟨e, rfl, w5, le⟩
    refine rd_seq ?_
    refine rd_asg ?_
    refine tif_cut (fun v H' => ∃ c : Nat, v = .int (c : Int) ∧ Wg B H5 H' ∧ 1 ≤ c ∧ c ≤ 12) (fun R' qR => ?_) ?_
    · have one : R' (.int 1) H5 := qR _ _ ⟨1, rfl, Wg.refl w5.i1, by decide, by decide⟩
      walk_at "rx"
      refine ite2 (fun z => ?_) (fun z => ?_)
      · walk_at "rx"
        exact one
      · walk_at "rx"
        refine ite2 (fun y => ?_) (fun y => ?_)
        · walk_at "rx"
          exact one
        · walk_at "rx"
          refine ⟨B, 3, rfl, hB, w5.i1, by decide, by decide, fun H6 d w6 hd => ?_⟩
          walk_at "rx"
          exact qR _ _ ⟨1 + d, by rw [show (1 : Int) + (d : Int) = ((1 + d : Nat) : Int) by omega], w6, by omega, by omega⟩
    rintro v H6 ⟨c, rfl, w6, c1, c12⟩
    have w16 := w5.trans w6
    walk_at "rx"
    refine ⟨B, n - e, c, by rw [show ((n - e : Nat) : Int) = (n : Int) - (e : Int) by omega], hB, w6.i1, by omega, c1, c12, fun H7 VL vsx w7 nV hV lv nd rg => ?_⟩
    walk_at "rx"
    have w17 := w16.trans w7
    have mV : VL ∉ B.m := B.nem w6.i1 nV
    refine rd_newQ (by simp) fun H8 O S8 nO hO => ?_
    walk_at "rx"
    refine rd_rep (k := (e : Int)) hO (by omega) (by omega) (by simp) fun P nP => ?_
    obtain ⟨H9, eH, S9, hP⟩ := new_gen (.lst (List.replicate ((e : Int)).toNat [V.int (-1)]).flatten) nP
    rw [← eH]
    rw [flat_one, show ((e : Int)).toNat = e by omega, ← List.map_replicate] at hP
    have hV9 := S9 _ _ (S8 _ _ hV)
    have w19 := w17.same (S8.trans S9)
    refine rd_catLN hV9 hP (by rw [List.length_map, List.length_map, List.length_replicate]; omega) ?_
    refine rd_newL fun Ha L Sa nL hL => ?_
    rw [← List.map_append] at hL
    have wa := w19.same Sa
    have hVa := Sa _ _ hV9
    have mL : L ∉ B.m := B.nem w19.i1 nL
    walk_at "rx"
    refine ⟨B, L, vsx ++ List.replicate e (-1), rfl, hB, wa.i1, mL, hL, by rw [List.length_append, List.length_replicate]; omega, fun Hb E es wb nE hE pm => ?_⟩
    have lE := pm.length_eq
    rw [List.length_append, List.length_replicate] at lE
    have I : Img es := ⟨by omega, by omega, fun x hx => by
      rcases List.mem_append.mp (pm.mem_iff.mp hx) with y | y
      · have := rg x y; omega
      · rw [(List.mem_replicate.mp y).2]; decide⟩
    have nd0 := full_nd76 rg nd pm
    have wab := wa.trans wb
    have mE : E ∉ B.m := B.nem wa.i1 nE
    walk_at "rx"
    by_cases y8 : way = 8
    · rw [decide_eq_true (show V.int (way : Int) = V.int 8 by rw [y8]; rfl)]
      walk_at "rx"
      refine rd_tupF hE fun Hc p1 Sc n1 g1 => ?_
      have hEc := Sc _ _ hE
      walk_at "rx"
      refine rd_tupF hEc fun Hd p2 Sd n2 g2 => ?_
      walk_at "rx"
      refine rd_newQ (by simp) fun He t Se nt ht => ?_
      exact q He t p1 p2 es es (wab.same ((Sc.trans Sd).trans Se)) ht ⟨(g1.same Sd).same Se, g2.same Se, I, I, ⟨List.Perm.refl _, nd0⟩⟩
    rw [decide_eq_false (show ¬ V.int (way : Int) = V.int 8 from fun w => y8 (by have := V.int.inj w; omega))]
    walk_at "rx"
    by_cases y1 : way = 1
    rotate_left
    · rw [decide_eq_false (show ¬ V.int (way : Int) = V.int 1 from fun w => y1 (by have := V.int.inj w; omega))]
      walk_at "rx"
      refine rd_tupF hE fun Hc p1 Sc n1 g1 => ?_
      have hEc := Sc _ _ hE
      have wc := wab.same Sc
      walk_at "rx"
      refine ⟨B, E, es, rfl, hB, wc.i1, mE, hEc, I.2.1, fun Hd F fs wd nF hF pf => ?_⟩
      have J : Img fs := ⟨by rw [pf.length_eq]; exact I.1, by rw [pf.length_eq]; exact I.2.1, fun x hx => I.2.2 x (pf.mem_iff.mp hx)⟩
      walk_at "rx"
      refine rd_tupF hF fun He p2 Se n2 g2 => ?_
      walk_at "rx"
      refine rd_newQ (by simp) fun Hf t Sf nt ht => ?_
      exact q Hf t p1 p2 es fs ((wc.trans wd).same (Se.trans Sf)) ht ⟨((g1.wg wd).same Se).same Sf, g2.same Sf, I, J, ⟨pf.symm, nd0⟩⟩
    rw [decide_eq_true (show V.int (way : Int) = V.int 1 by rw [y1]; rfl)]
    have hVb := wb.lst mV hVa
    walk_at "rx"
    refine ⟨B, VL, vsx, rfl, hB, wb.i1, mV, hVb, by omega, fun Hc N ns wc nN hN pn => ?_⟩
    have hEc := wc.lst mE hE
    have hVc := wc.lst mV hVb
    walk_at "rx"
    refine rd_newQ (by simp) fun Hd A' Sd nA hA => ?_
    have hEd := Sd _ _ hEc
    have hVd := Sd _ _ hVc
    have hNd := Sd _ _ hN
    walk_at "rx"
    have nA0 : H A' = none := (wab.trans wc).free nA
    have wd := (wab.trans wc).same Sd
    have nEA : E ≠ A' := fun z => by rw [← z, hEc] at nA; cases nA
    have nVA : VL ≠ A' := fun z => by rw [← z, hVc] at nA; cases nA
    have nNA : N ≠ A' := fun z => by rw [← z, hN] at nA; cases nA
    have ln := pn.length_eq
    refine fr_it (walk_list (xs := es.map V.int)) (fun i σ H' => ∃ (y9 : Option V), σ = [some (.ref B.b), some (.int (way : Int)), some (.int (n : Int)), some (.int (e : Int)), some (.int (c : Int)), some (.ref VL), some (.ref E), some (.ref N), some (.ref A'), y9] ∧ Wg B H H' ∧ H' E = some (.lst (es.map V.int)) ∧ H' VL = some (.lst (vsx.map V.int)) ∧ H' N = some (.lst (ns.map V.int)) ∧ H' A' = some (.lst (((es.take i).map (nameF vsx ns)).map V.int))) ⟨none, rfl, wd, hEd, hVd, hNd, hA⟩ (fun i σ H' _ pp => ?_) ?_ ?_
    · obtain ⟨_, _, _, h, _⟩ := pp
      exact SqL.of h
    · rintro i x σ Ha Hb2 hi ⟨y9, rfl, wx, hEx, hVx, hNx, hAx⟩ ⟨eH, ex⟩
      subst eH
      rw [List.length_map] at hi
      rw [List.getElem?_map, List.getElem?_eq_getElem hi] at ex
      cases ex
      have tn := take_next hi
      have mem := pm.mem_iff.mp (List.getElem_mem hi)
      have le12 : ((((es.take i).map (nameF vsx ns)).map V.int).length : Nat) < 1000 := by
        rw [List.length_map, List.length_map, List.length_take]
        have := I.2.1
        omega
      generalize es[i] = x at *
      have fin : ∀ y : Int, y = nameF vsx ns x → (upd Hb2 A' (.lst ((((es.take i).map (nameF vsx ns)).map V.int) ++ [V.int y]))) A' = some (.lst (((es.take (i + 1)).map (nameF vsx ns)).map V.int)) := fun y ey => by
        rw [upd_same, tn, List.map_append, List.map_append, ey]
        rfl
      walk_at "rx"
      by_cases z : x = -1
      · rw [decide_eq_true (show V.int x = V.int (-1) by rw [z])]
        walk_at "rx"
        exact ⟨_, rfl, wx.mut nA0, by rw [upd_ne nEA]; exact hEx, by rw [upd_ne nVA]; exact hVx, by rw [upd_ne nNA]; exact hNx, fin (-1) (by unfold nameF; rw [if_pos z])⟩
      · rw [decide_eq_false (show ¬ V.int x = V.int (-1) from fun w => z (V.int.inj w))]
        have xv : x ∈ vsx := by
          rcases List.mem_append.mp mem with y | y
          · exact y
          · exact absurd (List.mem_replicate.mp y).2 z
        have lj := List.idxOf_lt_length_of_mem xv
        have ej : vsx[vsx.idxOf x]? = some x := by rw [List.getElem?_eq_getElem lj, List.getElem_idxOf]
        have no : ∀ m, m < vsx.idxOf x → vsx[m]? ≠ some x := fun m hm em => by
          have := (List.getElem?_inj (by omega) nd).mp (em.trans ej.symm)
          omega
        have en : atI (ns.map V.int) ((vsx.idxOf x : Nat) : Int) = some (.int (ns.getD (vsx.idxOf x) 0)) := atI_ints (by omega) (by omega)
        walk_at "rx"
        refine rd_idx hVx ej no ?_
        walk_at "rx"
        exact ⟨_, rfl, wx.mut nA0, by rw [upd_ne nEA]; exact hEx, by rw [upd_ne nVA]; exact hVx, by rw [upd_ne nNA]; exact hNx, fin _ (by unfold nameF; rw [if_neg z])⟩
    rintro σ Hx ⟨y9, rfl, wx, hEx, hVx, hNx, hAx⟩
    rw [List.length_map, List.take_length] at hAx
    have pf := name_perm rg nd pn pm
    have J : Img (es.map (nameF vsx ns)) := ⟨by rw [List.length_map]; exact I.1, by rw [List.length_map]; exact I.2.1, fun x hx => I.2.2 x (pf.mem_iff.mpr hx)⟩
    walk_at "rx"
    refine rd_tupF hEx fun Hy p1 Sy n1 g1 => ?_
    have hAy := Sy _ _ hAx
    walk_at "rx"
    refine rd_tupF hAy fun Hz p2 Sz n2 g2 => ?_
    walk_at "rx"
    refine rd_newQ (by simp) fun Hw t Sw nt ht => ?_
    exact q Hw t p1 p2 es _ (wx.same ((Sy.trans Sz).trans Sw)) ht ⟨(g1.same Sz).same Sw, g2.same Sw, I, J, ⟨pf, nd0⟩⟩
def sp_law_rings (_K : PySem.W.Frag) : Sp := fun vs H Q _ => ∃ (a b : Addr) (es fs : List Int), vs = [.ref a, .ref b] ∧ RP H a b es fs ∧ ∀ H' l bs, Same H H' → H l = none → H' l = some (.lst (bs.map V.ref)) → NRows H' bs (rngs es fs) → Q (.ref l) H'
set_option maxHeartbeats 4000000 in
theorem ok_law_rings (T : Top K mg) {f : Addr} {fd : FuncData} (D : Def K mg "_law_rings" s_law_rings ["before", "after"] f fd) : FnOk P w K mg base CX0 1 f fd ["before", "after"] (sp_law_rings K) := by
  refine D.F.ok sc_law_rings (fun vs H Q E h => ?_) (fun cdv A outer s H vs Q E hr h => ?_)
  · obtain ⟨a, b, es, fs, rfl, _⟩ := h
    rfl
  · obtain ⟨a, b, es, fs, rfl, r, q⟩ := h
    have R := r.rn
    have e12 := r.ia.2.1
    have lf := R.len
    refine ⟨_, (pss_cons (ps_set (i := 2) sc_law_rings.nd rfl (.inl rfl) (pe_lst pa_nil))
    (pss_cons (ps_for PassesOwn.never rfl (pi_range1 (by rfl) T.b_range (pa_cons (pe_callB (r := rLenQ K) call_lenQ (by rfl) T.b_len PySem.boot_len (pa_cons (pv 0) pa_nil)) pa_nil)) (pg_name (i := 3) sc_law_rings.nd rfl (.inl rfl)) (pss_cons (ps_set (i := 4) sc_law_rings.nd rfl (.inl rfl) (pe_lst (pa_cons (pv 3) pa_nil)))
    (pss_cons (ps_set (i := 5) sc_law_rings.nd rfl (.inl rfl) (pv 3))
    (pss_cons (ps_for PassesOwn.never rfl (pi_range1 (by rfl) T.b_range (pa_cons (pe_callB (r := rLenQ K) call_lenQ (by rfl) T.b_len PySem.boot_len (pa_cons (pv 0) pa_nil)) pa_nil)) (pg_name (i := 6) sc_law_rings.nd rfl (.inl rfl)) (pss_one (ps_if (pt_cmpR op_ne (pe_ix (r := rIxT K) ix_tup (pv 1) (pv 5) (fun _ _ => rfl)) (pe_un un_neg pe_int) (nomark _)) (pss_cons (ps_set (i := 5) sc_law_rings.nd rfl (.inl rfl) (pe_tix (pv 0) (pe_ix (r := rIxT K) ix_tup (pv 1) (pv 5) (fun _ _ => rfl))))
    (pss_one (ps_if (PW.pt (pw_and (pt_cmpR op_ne (pv 5) (pv 3) (nomark _)) (pw_and1 (pt_cmpR (r := rIn K true) op_notIn_seq (pv 5) (pv 4) (by rfl))))) (pss_one (ps_expr (pe_bm PySem.F.plainAttrs_list PySem.F.slot_list_append PySem.F.type_list_append mt_append (pv 4) (pa_cons (pv 5) pa_nil)))) pss_nil))) pss_nil)))
    (pss_cons (ps_set (i := 7) sc_law_rings.nd rfl (.inl rfl) (pe_cmpR (r := rIn K true) op_notIn_seq (pe_un un_neg pe_int) (pe_lc (own := [("block", 8)]) (g := gName 8) (tt := tYes) rfl sc_law_rings.nd (pi_list (pv 4))
      (blkOk_by (own := [("block", 8)]) (N := ["before", "after", "found", "start", "row", "spot", "turn", "is_whole", "block"]) (sc := defScope s_law_rings) (by decide +kernel)) (fun _ _ _ _ _ => (pg_name (i := 8) sc_law_rings.nd rfl (.inl rfl))) (fun _ _ _ _ _ => pts_nil)
      (fun _ _ _ _ _ => (pe_ix (r := rIxT K) ix_tup (pv 1) (pv 8) (fun _ _ => rfl)))) (by rfl)))
    (pss_one (ps_if (PW.pt (pw_and (pt_cmpR op_gt (pe_callB (r := rLenQ K) call_lenQ (by rfl) T.b_len PySem.boot_len (pa_cons (pv 4) pa_nil)) pe_int (nomark _)) (pw_and (pt_val (pv 7)) (pw_and1 (pt_cmpR op_eq (pv 3) (pe_callB (r := rMin K) (cr_min rfl) (by rfl) T.b_min (by decide +kernel) (pa_cons (pv 4) pa_nil)) (nomark _)))))) (pss_one (ps_expr (pe_bm PySem.F.plainAttrs_list PySem.F.slot_list_append PySem.F.type_list_append mt_append (pv 2) (pa_cons (pe_callTy (r := rTupQ K) call_tupQ (by rfl) T.b_tuple (by decide +kernel) (pa_cons (pv 4) pa_nil)) pa_nil)))) pss_nil)))))))
    (pss_one (ps_ret (pv 2))))), ?_⟩
    walk_at "rx"
    refine rd_newQ (by decide) fun H1 D S1 nD hD => ?_
    have r1 := r.same S1
    have ha1 := r1.ta
    have hr1 : -100000 ≤ ((es.length : Nat) : Int) ∧ ((es.length : Nat) : Int) ≤ 100000 := by omega
    walk_at "rx"
    refine fr_it walk_rng (fun i σ H' => ∃ (bs : List Addr) (y3 y4 y5 y6 y7 y8 : Option V), σ = [some (.ref a), some (.ref b), some (.ref D), y3, y4, y5, y6, y7, y8] ∧ Same H H' ∧ H' D = some (.lst (bs.map V.ref)) ∧ NRows H' bs ((tops es fs i).map (Fo es fs)))
      ⟨[], none, none, none, none, none, none, rfl, S1, hD, TupsAt.nil⟩ (fun _ _ _ _ _ => trivial) ?_ ?_
    · rintro i x σ H2 H3 hi2 ⟨bs, y3, y4, y5, y6, y7, y8, rfl, S2, hD2, tb⟩ ⟨rfl, rfl⟩
      have hi : i < es.length := by omega
      have r2 := r.same S2
      have ha2 := r2.ta
      have lb := NRows.len tb
      walk_at "rx"
      refine rd_newQ (by simp) fun H4 P S4 nP hP => ?_
      have r4 := r2.same S4
      have ha4 := r4.ta
      walk_at "rx"
      have nPD : P ≠ D := fun z => by rw [z, hD2] at nP; cases nP
      refine fr_rng0 (fun j σ H' => ∃ (p : List Nat) (sp : Nat) (z6 : Option V), σ = [some (.ref a), some (.ref b), some (.ref D), some (.int (i : Int)), some (.ref P), some (.int (sp : Int)), z6, y7, y8] ∧ Same H3 H' ∧ H' P = some (.lst (nvs p)) ∧ sp < es.length ∧ sp ∈ p ∧ Pth (G es fs) es.length i p ∧ ((p.length = j + 1 ∧ sp = p.getLastD 0 ∧ fol (G es fs) (es.length - j) p = Fo es fs i) ∨ p = Fo es fs i)) ⟨[i], i, _, rfl, S4, hP, hi, List.mem_singleton.mpr rfl, .start hi, .inl ⟨rfl, rfl, rfl⟩⟩ ?_ ?_
      · rintro j σ H5 hj ⟨p, sp, z6, rfl, S5, hP5, lsp, msp, Pp, hc⟩
        have hj2 : j < es.length := by omega
        have r5 := r2.same S5
        have hb5 := r5.tb
        have bi : atI (fs.map V.int) (sp : Int) = some (.int (fs.getD sp 0)) := atI_ints (by omega) (by omega)
        walk_at "rx"
        by_cases n : fs.getD sp 0 = -1
        · rw [decide_eq_true (show V.int (fs.getD sp 0) = V.int (-1) from by rw [n])]
          walk_at "rx"
          refine ⟨p, sp, _, rfl, S5, hP5, lsp, msp, Pp, .inr ?_⟩
          rcases hc with ⟨_, e, ef⟩ | e
          · rw [← ef, fol_stop (by unfold G; rw [← e, if_pos n]; exact msp)]
          · exact e
        · rw [decide_eq_false (show ¬ V.int (fs.getD sp 0) = V.int (-1) from fun w => n (V.int.inj w))]
          walk_at "rx"
          have me := R.to lsp n
          have mem : fs.getD sp 0 ∈ es := by rw [← me.2]; exact mem_at me.1
          have ge : es.idxOf (fs.getD sp 0) = G es fs sp := by unfold G; rw [if_neg n]
          refine ⟨_, rfl, _, _, rfl, r5.ga, ?_⟩
          walk_at "rx"
          refine ⟨_, rfl, r5.ga, mem, ?_⟩
          rw [ge]
          have ip : i ∈ p := List.mem_of_getElem? Pp.hd
          walk_at "rx"
          by_cases m : G es fs sp ∈ p
          · have fin : p = Fo es fs i := by
              rcases hc with ⟨_, e, ef⟩ | e
              · rw [← ef, fol_stop (by rw [← e]; exact m)]
              · exact e
            by_cases z : G es fs sp = i
            · rw [decide_eq_true (show V.int ((G es fs sp : Nat) : Int) = V.int (i : Int) from by rw [z])]
              walk_at "rx"
              exact ⟨p, G es fs sp, _, rfl, S5, hP5, me.1, m, Pp, .inr fin⟩
            · rw [decide_eq_false (show ¬ V.int ((G es fs sp : Nat) : Int) = V.int (i : Int) from fun w => z (by have := V.int.inj w; omega))]
              walk_at "rx"
              refine rd_ninLf hP5 rfl (nvs_flat _) ?_
              rw [nvs_in, decide_eq_true m]
              walk_at "rx"
              exact ⟨p, G es fs sp, _, rfl, S5, hP5, me.1, m, Pp, .inr fin⟩
          · have z : G es fs sp ≠ i := fun e => m (by rw [e]; exact ip)
            rw [decide_eq_false (show ¬ V.int ((G es fs sp : Nat) : Int) = V.int (i : Int) from fun w => z (by have := V.int.inj w; omega))]
            walk_at "rx"
            refine rd_ninLf hP5 rfl (nvs_flat _) ?_
            rw [nvs_in, decide_eq_false m]
            have pl := Pp.len
            have la2 : (nvs p).length < 1000 := by rw [nvs_len]; omega
            walk_at "rx"
            rcases hc with ⟨lp, e, ef⟩ | e
            · subst e
              refine ⟨p ++ [G es fs (p.getLastD 0)], G es fs (p.getLastD 0), _, rfl, same_mut S5 nP, by rw [nvs_app]; exact upd_same, me.1, List.mem_append_right _ (List.mem_singleton.mpr rfl), Pp.next m me.1, .inl ⟨by rw [List.length_append, lp]; rfl, (last_snoc p _).symm, ?_⟩⟩
              rw [show es.length - j = (es.length - (j + 1)) + 1 by omega, fol_step m] at ef
              exact ef
            · exact absurd (by rw [e] at msp ⊢; exact fo_closed R hi msp) m
      · rintro σ H5 ⟨p, sp, z6, rfl, S5, hP5, lsp, msp, Pp, hc⟩
        have ep : p = Fo es fs i := by
          rcases hc with ⟨e, _⟩ | e
          · have := Pp.len
            omega
          · exact e
        subst ep
        have r5 := r2.same S5
        have hb5 := r5.tb
        have hD5 := S5 _ _ hD2
        have tb5 := TupsAt.same S5 tb
        walk_at "rx"
        have pl := Pp.len
        have hd := Pp.headD
        have nx : tops es fs (i + 1) = tops es fs i ++ if IsR (G es fs) (Fo es fs i) then [i] else [] := by
          unfold tops
          rw [List.range_succ, List.filter_append]
          congr 1
          by_cases z : IsR (G es fs) (Fo es fs i)
          · rw [if_pos z, List.filter_cons_of_pos (by rw [decide_eq_true z])]; rfl
          · rw [if_neg z, List.filter_cons_of_neg (by rw [decide_eq_false z]; decide)]; rfl
        refine lc_map (walk_list (xs := nvs (Fo es fs i))) (((Fo es fs i).map fun x => fs.getD x 0).map V.int) ?_ ?_ (fun H' S => SqL.of (S _ _ hP5)) ?_ ?_
        · rw [List.length_map, List.length_map, nvs_len]
        · rw [nvs_len]; omega
        · rintro k x H6 H7 Qc R6 hk S6 ⟨rfl, ex⟩ qc
          rw [nvs_len] at hk
          have ek : (Fo es fs i)[k]? = some (Fo es fs i)[k] := List.getElem?_eq_getElem hk
          rw [nvs_get ek] at ex
          cases ex
          have lk := Pp.lt _ (List.getElem_mem hk)
          have hb6 := hb5.same S6
          have bk : atI (fs.map V.int) (((Fo es fs i)[k] : Nat) : Int) = some (.int (fs.getD (Fo es fs i)[k] 0)) := atI_ints (by omega) (by omega)
          walk_at "rx"
          refine ⟨rfl, ?_⟩
          walk_at "rx"
          exact qc _ _ (Same.refl _) (by rw [List.getElem?_map, List.getElem?_map, ek]; rfl)
        intro H6 W S6 nW hW
        have hP6 := S6 _ _ hP5
        have hD6 := S6 _ _ hD5
        have tb6 := TupsAt.same S6 tb5
        have S26 := (S2.trans S5).trans S6
        have no : ¬ IsR (G es fs) (Fo es fs i) → NRows H6 bs ((tops es fs (i + 1)).map (Fo es fs)) := fun k => by rw [nx, if_neg k, List.append_nil]; exact tb6
        have lpos : 0 < (Fo es fs i).length := List.length_pos_iff.mpr Pp.ne
        walk_at "rx"
        refine rd_ninLf hW rfl (ints_flat _) ?_
        rw [inV_ints]
        walk_at "rx"
        by_cases z1 : 1 < (Fo es fs i).length
        · rw [decide_eq_true (show (1 : Int) < (((nvs (Fo es fs i)).length : Nat) : Int) by rw [nvs_len]; omega)]
          walk_at "rx"
          by_cases w : -1 ∈ (Fo es fs i).map fun x => fs.getD x 0
          · rw [decide_eq_true w]
            walk_at "rx"
            refine ⟨bs, _, _, _, _, _, _, rfl, S26, hD6, no fun k => ?_⟩
            obtain ⟨x, hx, e⟩ := List.mem_map.mp w
            exact ring_whole R hi k x hx e
          · rw [decide_eq_false w]
            have full : ∀ x ∈ Fo es fs i, fs.getD x 0 ≠ -1 := fun x hx e => w (List.mem_map.mpr ⟨x, hx, e⟩)
            walk_at "rx"
            refine rd_minL (ns := niz (Fo es fs i)) hP6 (by rw [niz_len]; omega) fun m hm hle => ?_
            obtain ⟨x, rfl, hx⟩ := niz_of hm
            walk_at "rx"
            by_cases z3 : i = x
            · rw [decide_eq_true (show V.int (i : Int) = V.int (x : Int) from by rw [z3])]
              walk_at "rx"
              refine rd_newL fun H7 t S7 nt ht => ?_
              have hD7 := S7 _ _ hD6
              have lb2 : (bs.map V.ref).length < 1000 := by rw [List.length_map]; rw [List.length_map] at lb; have := List.length_filter_le (fun b => decide (IsR (G es fs) (Fo es fs b))) (List.range i); rw [List.length_range] at this; unfold tops at lb; omega
              walk_at "rx"
              refine ⟨bs ++ [t], _, _, _, _, _, _, rfl, same_mut (S26.trans S7) nD, by rw [List.map_append]; exact upd_same, ?_⟩
              rw [nx, if_pos ⟨z1, by rw [hd]; exact whole_end R hi z1 full, fun y hy => by
                rw [hd, z3]
                have := hle _ (mem_niz.mpr hy)
                omega⟩, List.map_append]
              exact (NRows.upd (TupsAt.same S7 tb6) hD7).snoc ((upd_ne (fun e => by rw [e, hD7] at ht; cases ht)).trans ht)
            · rw [decide_eq_false (show ¬ V.int (i : Int) = V.int (x : Int) from fun w => z3 (by have := V.int.inj w; omega))]
              walk_at "rx"
              refine ⟨bs, _, _, _, _, _, _, rfl, S26, hD6, no fun k => z3 ?_⟩
              have k1 := k.2.2 x hx
              rw [hd] at k1
              have k2 := hle _ (mem_niz.mpr (List.mem_of_getElem? Pp.hd))
              omega
        · rw [decide_eq_false (show ¬ (1 : Int) < (((nvs (Fo es fs i)).length : Nat) : Int) by rw [nvs_len]; omega)]
          walk_at "rx"
          exact ⟨bs, _, _, _, _, _, _, rfl, S26, hD6, no fun k => z1 k.1⟩
    · rintro σ H2 ⟨bs, y3, y4, y5, y6, y7, y8, rfl, S2, hD2, tb⟩
      walk_at "rx"
      refine q _ _ bs S2 nD hD2 ?_
      rw [show (((es.length : Nat) : Int)).toNat = es.length by omega] at tb
      exact tb
def sp_law_view (_K : PySem.W.Frag) : Sp := fun vs H Q _ => ∃ (a : Addr) (es : List Int), vs = [.ref a] ∧ TG H a es ∧ Rg es ∧ es.length ≤ 12 ∧ ∀ H', Same H H' → Q (.str (txt (codes es))) H'
set_option maxHeartbeats 4000000 in
theorem ok_law_view (T : Top K mg) {f : Addr} {fd : FuncData} (D : Def K mg "_law_view" s_law_view ["held"] f fd) : FnOk P w K mg base CX0 1 f fd ["held"] (sp_law_view K) := by
  refine D.F.ok sc_law_view (fun vs H Q E h => ?_) (fun cdv A outer s H vs Q E hr h => ?_)
  · obtain ⟨a, es, rfl, _⟩ := h
    rfl
  · obtain ⟨a, es, rfl, hT, I3, I2, q⟩ := h
    refine ⟨_, (pss_one (ps_ret (pe_join pe_str (pe_lc (own := [("value", 1)]) (g := gName 1) (tt := tYes) rfl sc_law_view.nd (pi_tup (pv 0))
      (blkOk_by (own := [("value", 1)]) (N := ["held", "value"]) (sc := defScope s_law_view) (by decide +kernel)) (fun _ _ _ _ _ => (pg_name (i := 1) sc_law_view.nd rfl (.inl rfl))) (fun _ _ _ _ _ => pts_nil)
      (fun _ _ _ _ _ => (pe_ifExp (pt_cmpR op_eq (pv 1) (pe_un un_neg pe_int) (nomark _)) pe_str (pe_callTy call_strQ (by rfl) T.b_str (by decide +kernel) (pa_cons (pe_op op_fdivN (pv 1) pe_int) pa_nil)))))))), ?_⟩
    walk_at "rx"
    refine lc_map (walk_tup (xs := es.map V.int)) ((codes es).map fun c => V.str (one c)) ?_ ?_ (fun H' S => (hT.same S).sq) ?_ ?_
    · simp [codes]
    · rw [List.length_map]
      omega
    · rintro i x H2 H3 Qc R hi S ⟨rfl, ex⟩ qc
      have hi2 : i < es.length := by rw [List.length_map] at hi; exact hi
      rw [List.getElem?_map, List.getElem?_eq_getElem hi2] at ex
      cases ex
      have k := I3 _ (List.getElem_mem hi2)
      walk_at "rx"
      refine ⟨rfl, ?_⟩
      have fin : ((codes es).map fun c => V.str (one c))[i]? = some (V.str (one (sg es[i]))) := by
        unfold codes
        rw [List.map_map, List.getElem?_map, List.getElem?_eq_getElem hi2]
        rfl
      walk_at "rx"
      by_cases z : es[i] = -1
      · rw [decide_eq_true (show V.int es[i] = V.int (-1) by rw [z])]
        walk_at "rx"
        refine qc _ _ (Same.refl _) ?_
        rw [fin]
        unfold sg
        rw [if_pos z]
        rfl
      · rw [decide_eq_false (show ¬ V.int es[i] = V.int (-1) from fun w => z (V.int.inj w))]
        obtain ⟨k0, k1⟩ := kind_small (e := es[i]) (by omega) k.2
        have dt := digit_txtI k0 k1
        walk_at "rx"
        refine rd_strQ k0 k1 ?_
        refine qc _ _ (Same.refl _) ?_
        rw [fin]
        unfold sg
        rw [if_neg z, ← dt]
    · intro H2 D S nD hD
      refine ⟨_, D, (codes es).map one, rfl, rfl, .inl (SqL.of (by rw [List.map_map]; exact hD)), ?_, ?_⟩
      · rw [ones_sum, List.length_map, codes_len]
        show es.length + es.length * 0 ≤ _
        omega
      · rw [join_sg]
        exact q _ S
def sp_law_obstacle (_K : PySem.W.Frag) : Sp := fun vs H Q _ => ∃ (a b : Addr) (es fs : List Int), vs = [.ref a, .ref b] ∧ RP H a b es fs ∧ (vdt es fs = 0 → ∀ H', Same H H' → Q .non H') ∧ (∀ H' d, vdt es fs ≠ 0 → Same H H' → DuAt H' d (vdt es fs) es fs → Q (.ref d) H')
set_option maxHeartbeats 4000000 in
theorem ok_law_obstacle (T : Top K mg) {f : Addr} {fd : FuncData} (D : Def K mg "_law_obstacle" s_law_obstacle ["before", "after"] f fd) : FnOk P w K mg base CX0 2 f fd ["before", "after"] (sp_law_obstacle K) := by
  obtain ⟨f_law_rings, fd_law_rings, D_law_rings⟩ := T.d__law_rings
  have G_law_rings : FnOk P w K mg base CX0 1 f_law_rings fd_law_rings ["before", "after"] (sp_law_rings K) := ok_law_rings T D_law_rings
  obtain ⟨f_law_view, fd_law_view, D_law_view⟩ := T.d__law_view
  have G_law_view : FnOk P w K mg base CX0 1 f_law_view fd_law_view ["held"] (sp_law_view K) := ok_law_view T D_law_view
  refine D.F.ok sc_law_obstacle (fun vs H Q E h => ?_) (fun cdv A outer s H vs Q E hr h => ?_)
  · obtain ⟨a, b, es, fs, rfl, _⟩ := h
    rfl
  · obtain ⟨a, b, es, fs, rfl, r, q0, q1⟩ := h
    have R := r.rn
    have e12 := r.ia.2.1
    have lf := R.len
    refine ⟨_, (pss_cons (ps_set (i := 2) sc_law_obstacle.nd rfl (.inl rfl) (pe_call G_law_rings hr (by rfl) D_law_rings.g D_law_rings.F.kp D_law_rings.b .nil pass0 (pa_cons (pv 0) (pa_cons (pv 1) pa_nil))))
    (pss_cons (ps_setLc (i := 3) (own := [("value", 4)]) (g := gName 4) (tt := _) rfl sc_law_obstacle.nd rfl rfl (sw_true rfl rfl rfl (by decide +kernel)) (pi_tup (pv 0))
      (blkOk_by (own := [("value", 4)]) (N := ["before", "after", "circles", "kinds", "value"]) (sc := defScope s_law_obstacle) (by decide +kernel)) (fun _ _ _ _ _ => (pg_name (i := 4) sc_law_obstacle.nd rfl (.inl rfl))) (fun _ _ _ _ _ => pts_one (pt_cmpR op_ne (pv 4) (pe_un un_neg pe_int) (nomark _)))
      (fun _ _ _ _ _ => (pe_op op_fdivN (pv 4) pe_int)))
    (pss_cons (ps_if (pt_cmpR (op_eqD hr.units) (pv 0) (pv 1) (nomark _)) (pss_one (ps_ret pe_non)) pss_nil)
    (pss_cons (ps_if (pt_cmpR (r := rIn K true) op_notIn_seq (pe_un un_neg pe_int) (pv 0) (by rfl)) (pss_one (ps_ret (pe_tup (pa_cons pe_str pa_nil)))) pss_nil)
    (pss_cons (ps_if (pt_cmpR op_eq (pe_call G_law_view hr (by rfl) D_law_view.g D_law_view.F.kp D_law_view.b .nil pass0 (pa_cons (pv 0) pa_nil)) (pe_call G_law_view hr (by rfl) D_law_view.g D_law_view.F.kp D_law_view.b .nil pass0 (pa_cons (pv 1) pa_nil)) (nomark _)) (pss_one (ps_ret (pe_tup (pa_cons pe_str pa_nil)))) pss_nil)
    (pss_cons (ps_if (PW.pt (pw_and (pt_cmpR op_eq (pe_tcnt hr.units (pv 0) (pe_un un_neg pe_int)) pe_int (nomark _)) (pw_and (pt_cmpR (op_neD hr.units) (pv 2) (pe_lst pa_nil) (nomark _)) (pw_and1 (pt_cmpR op_eq (pe_callB (r := rMin K) (cr_min rfl) (by rfl) T.b_min (by decide +kernel) (pa_cons (pv 3) pa_nil)) (pe_callB (r := rMax K) (cr_max rfl) (by rfl) T.b_max (by decide +kernel) (pa_cons (pv 3) pa_nil)) (nomark _)))))) (pss_one (ps_ret (pe_tup (pa_cons pe_str (pa_cons (pe_callTy (r := rTupQ K) call_tupQ (by rfl) T.b_tuple (by decide +kernel) (pa_cons (pv 2) pa_nil)) pa_nil))))) pss_nil)
    (pss_cons (ps_if (PW.pt (pw_and (pt_cmpR op_eq (pe_tcnt hr.units (pv 0) (pe_un un_neg pe_int)) pe_int (nomark _)) (pw_and1 (pt_cmpR (op_neD hr.units) (pv 2) (pe_lst pa_nil) (nomark _))))) (pss_one (ps_ret (pe_tup (pa_cons pe_str (pa_cons (pe_callTy (r := rTupQ K) call_tupQ (by rfl) T.b_tuple (by decide +kernel) (pa_cons (pv 2) pa_nil)) pa_nil))))) pss_nil)
    (pss_one (ps_ret pe_non))))))))), ?_⟩
    walk_at "rx"
    refine ⟨a, b, es, fs, rfl, r, fun H1 l bs S1 nl hl tb => ?_⟩
    have r1 := r.same S1
    have ha1 := r1.ta
    have hb1 := r1.tb
    walk_at "rx"
    have I3 := r.ia.2.2
    refine lc_acc (walk_tup (xs := es.map V.int)) (fun i acc => acc = (kinds (es.take i)).map V.int) rfl (fun i acc hi e => by
      have := kinds_len (es.take i)
      rw [List.length_take] at this
      rw [e, List.length_map]
      omega) (fun H' S => (ha1.same S).sq) ?_ ?_
    · rintro i x Hx Hy acc Qc R2 hi Sx e ⟨rfl, ex⟩ qc rc
      have hi2 : i < es.length := by rw [List.length_map] at hi; exact hi
      rw [List.getElem?_map, List.getElem?_eq_getElem hi2] at ex
      cases ex
      have nx := kinds_next hi2
      have k := I3 _ (List.getElem_mem hi2)
      walk_at "rx"
      refine ⟨rfl, ?_⟩
      walk_at "rx"
      by_cases z : es[i] = -1
      · rw [decide_eq_true (show V.int es[i] = V.int (-1) from by rw [z])]
        walk_at "rx"
        refine rc _ (Same.refl _) ?_
        rw [nx, if_pos z, List.append_nil]
        exact e
      · rw [decide_eq_false (show ¬ V.int es[i] = V.int (-1) from fun w => z (V.int.inj w))]
        walk_at "rx"
        refine qc _ _ (Same.refl _) ?_
        rw [nx, if_neg z, List.map_append, e]
        rfl
    intro H2 D acc S2 nD hD e
    rw [e, List.length_map, List.take_length] at hD
    have kl := kinds_len es
    have r2 := r1.same S2
    have S12 := S1.trans S2
    walk_at "rx"
    refine rd_eqI r2.ta r2.tb ?_
    by_cases e0 : es = fs
    · rw [decide_eq_true e0]
      walk_at "rx"
      exact q0 (if_pos e0) _ S12
    rw [decide_eq_false e0]
    walk_at "rx"
    refine rd_ninO r2.ta rfl ?_
    rw [inV_ints]
    by_cases z : -1 ∉ es
    · rw [decide_eq_false z]
      have v1 : vdt es fs = 1 := by unfold vdt; rw [if_neg e0, if_pos z]
      walk_at "rx"
      refine rd_newQ (by simp) fun H3 d S3 nd hd => ?_
      exact q1 H3 d (by omega) (S12.trans S3) (.inl ⟨by omega, .inl ⟨v1, hd⟩⟩)
    have e1 : -1 ∈ es := Classical.not_not.mp z
    rw [decide_eq_true e1]
    walk_at "rx"
    refine ⟨a, es, rfl, r2.ta, r.ia.2.2, e12, fun H3 S3 => ?_⟩
    have r3 := r2.same S3
    walk_at "rx"
    refine ⟨b, fs, rfl, r3.tb, r.ib.2.2, r.ib.2.1, fun H4 S4 => ?_⟩
    have r4 := r3.same S4
    have S14 := (S12.trans S3).trans S4
    walk_at "rx"
    by_cases e2 : codes es = codes fs
    · rw [decide_eq_true (show V.str (txt (codes es)) = V.str (txt (codes fs)) by rw [e2])]
      have v2 : vdt es fs = 2 := by unfold vdt; rw [if_neg e0, if_neg (fun w => w e1), if_pos e2]
      walk_at "rx"
      refine rd_newQ (by simp) fun H5 d S5 nd hd => ?_
      exact q1 H5 d (by omega) (S14.trans S5) (.inl ⟨by omega, .inr (.inl ⟨v2, hd⟩)⟩)
    rw [decide_eq_false (show ¬ V.str (txt (codes es)) = V.str (txt (codes fs)) from fun w => e2 (txt_inj (V.str.inj w)))]
    have hD4 := S4 _ _ (S3 _ _ hD)
    have hl4 := S4 _ _ (S3 _ _ (S2 _ _ hl))
    have tb4 := TupsAt.same S4 (TupsAt.same S3 (TupsAt.same S2 tb))
    have none : ¬ crowd es fs → vdt es fs = 0 := fun k => by unfold vdt; rw [if_neg e0, if_neg (fun w => w e1), if_neg e2, if_pos k]
    walk_at "rx"
    refine ⟨_, rfl, _, _, rfl, r4.ga, ?_⟩
    walk_at "rx"
    refine ⟨_, rfl, r4.ga, ?_⟩
    walk_at "rx"
    by_cases y : es.count (-1) = 1
    rotate_left
    · rw [decide_eq_false (show ¬ V.int ((es.count (-1) : Nat) : Int) = V.int 1 from fun w => y (by have := V.int.inj w; omega))]
      have v0 := none fun k => y k.1
      walk_at "rx"
      refine ⟨_, rfl, _, _, rfl, r4.ga, ?_⟩
      walk_at "rx"
      refine ⟨_, rfl, r4.ga, ?_⟩
      walk_at "rx"
      rw [decide_eq_false (show ¬ V.int ((es.count (-1) : Nat) : Int) = V.int 1 from fun w => y (by have := V.int.inj w; omega))]
      walk_at "rx"
      exact q0 v0 _ S14
    rw [decide_eq_true (show V.int ((es.count (-1) : Nat) : Int) = V.int 1 by rw [y]; rfl)]
    walk_at "rx"
    refine rd_newQ (by simp) fun H5 p5 S5 nP5 hP5 => ?_
    refine rd_neRN (S5 _ _ hl4) (TupsAt.same S5 tb4) hP5 ?_
    by_cases x : rngs es fs = []
    · rw [decide_eq_true x]
      have v0 := none fun k => k.2 x
      have r5 := r4.same S5
      walk_at "rx"
      refine ⟨_, rfl, _, _, rfl, r5.ga, ?_⟩
      walk_at "rx"
      refine ⟨_, rfl, r5.ga, ?_⟩
      walk_at "rx"
      rw [decide_eq_true (show V.int ((es.count (-1) : Nat) : Int) = V.int 1 by rw [y]; rfl)]
      walk_at "rx"
      refine rd_newQ (by simp) fun H6 p6 S6 nP6 hP6 => ?_
      refine rd_neRN (S6 _ _ (S5 _ _ hl4)) (TupsAt.same S6 (TupsAt.same S5 tb4)) hP6 ?_
      rw [decide_eq_true x]
      walk_at "rx"
      exact q0 v0 _ ((S14.trans S5).trans S6)
    rw [decide_eq_false x]
    have c : crowd es fs := ⟨y, x⟩
    walk_at "rx"
    have hD5 := S5 _ _ hD4
    have hl5 := S5 _ _ hl4
    have tb5 := TupsAt.same S5 tb4
    have kp := kinds_pos R x
    refine rd_minL hD5 kp fun m1 h1 l1 => ?_
    walk_at "rx"
    refine rd_maxL hD5 kp fun m2 h2 l2 => ?_
    have mm := mono_mm I3 h1 l1 h2 l2
    have S15 := S14.trans S5
    walk_at "rx"
    by_cases m : mono es
    · rw [decide_eq_true (show V.int m1 = V.int m2 by rw [mm.mpr m])]
      have v3 : vdt es fs = 3 := by unfold vdt; rw [if_neg e0, if_neg (fun w => w e1), if_neg e2, if_neg (fun w => w c), if_pos m]
      walk_at "rx"
      refine rd_newL fun H6 t S6 nT hT => ?_
      walk_at "rx"
      refine rd_newQ (by simp) fun H7 d S7 nd hd => ?_
      exact q1 H7 d (by omega) ((S15.trans S6).trans S7) (.inl ⟨by omega, .inr (.inr ⟨v3, t, bs, hd, S7 _ _ hT, TupsAt.same (S6.trans S7) tb5⟩)⟩)
    rw [decide_eq_false (show ¬ V.int m1 = V.int m2 from fun w => m (mm.mp (V.int.inj w)))]
    have v4 : vdt es fs = 4 := by unfold vdt; rw [if_neg e0, if_neg (fun w => w e1), if_neg e2, if_neg (fun w => w c), if_neg m]
    have r5 := r4.same S5
    walk_at "rx"
    refine ⟨_, rfl, _, _, rfl, r5.ga, ?_⟩
    walk_at "rx"
    refine ⟨_, rfl, r5.ga, ?_⟩
    walk_at "rx"
    rw [decide_eq_true (show V.int ((es.count (-1) : Nat) : Int) = V.int 1 by rw [y]; rfl)]
    walk_at "rx"
    refine rd_newQ (by simp) fun H6 p6 S6 nP6 hP6 => ?_
    have hl6 := S6 _ _ hl5
    have tb6 := TupsAt.same S6 tb5
    refine rd_neRN hl6 tb6 hP6 ?_
    rw [decide_eq_false x]
    walk_at "rx"
    refine rd_newL fun H7 t S7 nT hT => ?_
    walk_at "rx"
    refine rd_newQ (by simp) fun H8 d S8 nd hd => ?_
    exact q1 H8 d (by omega) (((S15.trans S6).trans S7).trans S8) (.inr ⟨v4, t, bs, hd, S8 _ _ hT, TupsAt.same (S7.trans S8) tb6⟩)
def sp_law_moving (_K : PySem.W.Frag) : Sp := fun vs H Q _ => ∃ (a b : Addr) (es fs : List Int), vs = [.ref a, .ref b] ∧ RP H a b es fs ∧ ∀ H' D (ms : List Int), Same H H' → H D = none → H' D = some (.lst (ms.map V.int)) → ms.Perm (mvA es fs es.length) → ms.Pairwise (· ≤ ·) → Q (.ref D) H'
set_option maxHeartbeats 4000000 in
theorem ok_law_moving (T : Top K mg) {f : Addr} {fd : FuncData} (D : Def K mg "_law_moving" s_law_moving ["before", "after"] f fd) : FnOk P w K mg base CX0 1 f fd ["before", "after"] (sp_law_moving K) := by
  refine D.F.ok sc_law_moving (fun vs H Q E h => ?_) (fun cdv A outer s H vs Q E hr h => ?_)
  · obtain ⟨a, b, es, fs, rfl, _⟩ := h
    rfl
  · obtain ⟨a, b, es, fs, rfl, r, q⟩ := h
    have R := r.rn
    have e12 := r.ia.2.1
    have lf := R.len
    have ha := r.ta
    have hb := r.tb
    have hr1 : -100000 ≤ ((es.length : Nat) : Int) ∧ ((es.length : Nat) : Int) ≤ 100000 := by omega
    refine ⟨_, (pss_one (ps_ret (pe_callB (r := rSorted K) cr_sorted (by rfl) T.b_sorted (by decide +kernel) (pa_cons (pe_lc (own := [("k", 2)]) (g := gName 2) (tt := _) rfl sc_law_moving.nd (pi_range1 (by rfl) T.b_range (pa_cons (pe_callB (r := rLenQ K) call_lenQ (by rfl) T.b_len PySem.boot_len (pa_cons (pv 0) pa_nil)) pa_nil))
      (blkOk_by (own := [("k", 2)]) (N := ["before", "after", "k"]) (sc := defScope s_law_moving) (by decide +kernel)) (fun _ _ _ _ _ => (pg_name (i := 2) sc_law_moving.nd rfl (.inl rfl))) (fun _ _ _ _ _ => pts_one (PW.pt (pw_and (pt_cmpR op_ne (pe_ix (r := rIxT K) ix_tup (pv 0) (pv 2) (fun _ _ => rfl)) (pe_un un_neg pe_int) (nomark _)) (pw_and1 (pt_cmpR op_ne (pe_ix (r := rIxT K) ix_tup (pv 0) (pv 2) (fun _ _ => rfl)) (pe_ix (r := rIxT K) ix_tup (pv 1) (pv 2) (fun _ _ => rfl)) (nomark _))))))
      (fun _ _ _ _ _ => (pe_ix (r := rIxT K) ix_tup (pv 0) (pv 2) (fun _ _ => rfl)))) pa_nil)))), ?_⟩
    walk_at "rx"
    rw [show (((es.length : Nat) : Int)).toNat = es.length by omega]
    refine lc_acc walk_rng (fun i acc => acc = (mvC es fs i).map V.int) rfl (fun i acc hi e => by
      rw [e, List.length_map]
      have := mvC_len es fs i
      omega) (fun _ _ => trivial) ?_ ?_
    · rintro i x Hx Hy acc Qc R2 hi Sx e ⟨rfl, rfl⟩ qc rc
      have ha2 := ha.same Sx
      have hb2 := hb.same Sx
      have ae : atI (es.map V.int) (i : Int) = some (.int (es.getD i 0)) := atI_ints (by omega) (by omega)
      have af : atI (fs.map V.int) (i : Int) = some (.int (fs.getD i 0)) := atI_ints (by omega) (by omega)
      have nx := mvC_next (es := es) (fs := fs) (i := i)
      walk_at "rx"
      refine ⟨rfl, ?_⟩
      walk_at "rx"
      by_cases z : es.getD i 0 = -1
      · rw [decide_eq_true (show V.int (es.getD i 0) = V.int (-1) by rw [z])]
        walk_at "rx"
        refine rc _ (Same.refl _) ?_
        rw [nx, if_neg (fun w => w.1 z), List.append_nil]
        exact e
      · rw [decide_eq_false (show ¬ V.int (es.getD i 0) = V.int (-1) from fun w => z (V.int.inj w))]
        walk_at "rx"
        by_cases y : es.getD i 0 = fs.getD i 0
        · rw [decide_eq_true (show V.int (es.getD i 0) = V.int (fs.getD i 0) by rw [y])]
          walk_at "rx"
          refine rc _ (Same.refl _) ?_
          rw [nx, if_neg (fun w => w.2 y), List.append_nil]
          exact e
        · rw [decide_eq_false (show ¬ V.int (es.getD i 0) = V.int (fs.getD i 0) from fun w => y (V.int.inj w))]
          walk_at "rx"
          refine qc _ _ (Same.refl _) ?_
          rw [nx, if_pos ⟨z, y⟩, List.map_append, e]
          rfl
    intro H2 D acc S2 nD hD e
    have := mvC_len es fs es.length
    rw [e] at hD
    walk_at "rx"
    refine rd_sorted hD (by omega) fun H3 p3 ms S3 n3 h3 pm pw => ?_
    exact q H3 p3 ms (S2.trans S3) (S2.free n3) h3 (pm.trans (mvC_perm R)) pw
def spfollowed (_K : PySem.W.Frag) : Sp := fun vs H Q _ => ∃ (l : Addr) (es fs : List Int) (b : Nat), vs = [.ref l, .int (b : Int)] ∧ H l = some (.tup ((ldL es fs).map V.int)) ∧ Ren es fs ∧ es.length ≤ 12 ∧ b < es.length ∧ ∀ H' p, Same H H' → H' p = some (.tup (nvs (Fo es fs b))) → Q (.ref p) H'
set_option maxHeartbeats 4000000 in
theorem okfollowed (T : Top K mg) {f : Addr} {fd : FuncData} (D : Def K mg "followed" sfollowed ["leads", "block"] f fd) : FnOk P w K mg base CX0 1 f fd ["leads", "block"] (spfollowed K) := by
  refine D.F.ok scfollowed (fun vs H Q E h => ?_) (fun cdv A outer s H vs Q E hr h => ?_)
  · obtain ⟨l, es, fs, b, rfl, _⟩ := h
    rfl
  · obtain ⟨l, es, fs, b, rfl, hl, R, l12, hb, q⟩ := h
    have lf := R.len
    refine ⟨_, (pss_cons (ps_set (i := 2) scfollowed.nd rfl (.inl rfl) (pe_lst (pa_cons (pv 1) pa_nil)))
    (pss_cons (ps_while PassesOwn.never (PW.pt (pw_and (pt_cmpR op_ne (pe_ix (r := rIxT K) ix_tup (pv 0) (pe_ix (r := rIxL K) ix_list (pv 2) (pe_un un_neg pe_int) (fun _ _ => rfl)) (fun _ _ => rfl)) (Rv.pe_k (by rfl) T.k_EMPTY) (nomark _)) (pw_and1 (pt_cmpR (r := rIn K true) op_notIn_seq (pe_ix (r := rIxT K) ix_tup (pv 0) (pe_ix (r := rIxL K) ix_list (pv 2) (pe_un un_neg pe_int) (fun _ _ => rfl)) (fun _ _ => rfl)) (pv 2) (by rfl))))) (pss_one (ps_expr (pe_bm PySem.F.plainAttrs_list PySem.F.slot_list_append PySem.F.type_list_append mt_append (pv 2) (pa_cons (pe_ix (r := rIxT K) ix_tup (pv 0) (pe_ix (r := rIxL K) ix_list (pv 2) (pe_un un_neg pe_int) (fun _ _ => rfl)) (fun _ _ => rfl)) pa_nil)))))
    (pss_one (ps_ret (pe_callTy (r := rTupQ K) call_tupQ (by rfl) T.b_tuple (by decide +kernel) (pa_cons (pv 2) pa_nil)))))), ?_⟩
    walk_at "rx"
    refine rd_newQ (by simp) fun H1 D S1 nD hD => ?_
    walk_at "rx"
    refine ⟨fun m σ H' => ∃ p : List Nat, σ = [some (.ref l), some (.int (b : Int)), some (.ref D)] ∧ Same H H' ∧ H' D = some (.lst (nvs p)) ∧ Pth (G es fs) es.length b p ∧ p.length + m = es.length + 1 ∧ fol (G es fs) m p = Fo es fs b,
      ⟨es.length, [b], rfl, S1, hD, .start hb, by rw [List.length_singleton]; omega, rfl⟩, ?_⟩
    rintro m σ H2 ⟨p, rfl, S2, hD2, P, lm, ef⟩
    have hl2 := S2 _ _ hl
    have ll := P.lt _ (last_mem P.ne)
    have la := nvs_last P.ne
    have ga := ldL_at (es := es) (fs := fs) (b := p.getLastD 0) (by omega)
    have done : fol (G es fs) m p = p → ∀ H3 t, Same H2 H3 → H3 t = some (.tup (nvs p)) → Q (.ref t) H3 := fun e H3 t S3 h3 => q H3 t (S2.trans S3) (by rw [← ef, e]; exact h3)
    walk_at "rx"
    by_cases n : fs.getD (p.getLastD 0) 0 = -1
    · rw [if_pos n] at ga ⊢
      rw [decide_eq_true (show V.int (-1) = V.int (-1) from rfl)]
      walk_at "rx"
      have e : fol (G es fs) m p = p := fol_stop (by unfold G; rw [if_pos n]; exact last_mem P.ne) m
      refine rd_newL fun H3 t S3 n3 h3 => done e H3 t S3 h3
    · rw [if_neg n] at ga ⊢
      have gl := (R.to ll n).1
      rw [decide_eq_false (show ¬ V.int ((G es fs (p.getLastD 0) : Nat) : Int) = V.int (-1) from fun z => by have := V.int.inj z; omega)]
      walk_at "rx"
      refine rd_ninLf hD2 rfl (nvs_flat _) ?_
      rw [nvs_in]
      refine ⟨_, rfl, ?_⟩
      by_cases z : G es fs (p.getLastD 0) ∈ p
      · rw [decide_eq_true z]
        show if false = true then _ else _
        walk_at "rx"
        refine rd_newL fun H3 t S3 n3 h3 => done (fol_stop z m) H3 t S3 h3
      · rw [decide_eq_false z]
        show if true = true then _ else _
        have lp := P.len
        cases m with
        | zero => exact absurd lm (by omega)
        | succ m =>
          walk_at "rx"
          refine ⟨fun σ' H' => ∃ p2 : List Nat, σ' = [some (.ref l), some (.int (b : Int)), some (.ref D)] ∧ Same H H' ∧ H' D = some (.lst (nvs p2)) ∧ Pth (G es fs) es.length b p2 ∧ p2.length + m = es.length + 1 ∧ fol (G es fs) m p2 = Fo es fs b, fun σ' H' k => ⟨m, Nat.lt_succ_self m, k⟩, ?_⟩
          have la2 : (nvs p).length < 1000 := by rw [nvs_len]; omega
          walk_at "rx"
          exact ⟨p ++ [G es fs (p.getLastD 0)], rfl, same_mut S2 nD, by rw [nvs_app]; exact upd_same, P.next z gl, by rw [List.length_append, List.length_singleton]; omega, (fol_step z m).symm.trans ef⟩
def spall_rings (_K : PySem.W.Frag) : Sp := fun vs H Q _ => ∃ (l : Addr) (es fs : List Int), vs = [.ref l] ∧ H l = some (.tup ((ldL es fs).map V.int)) ∧ Ren es fs ∧ es.length ≤ 12 ∧ ∀ H' l2 bs, Same H H' → H' l2 = some (.lst (bs.map V.ref)) → NRows H' bs ((tops es fs es.length).map (Fo es fs)) → H l2 = none → Q (.ref l2) H'
set_option maxHeartbeats 4000000 in
theorem okall_rings (T : Top K mg) {f : Addr} {fd : FuncData} (D : Def K mg "all_rings" sall_rings ["leads"] f fd) : FnOk P w K mg base CX0 2 f fd ["leads"] (spall_rings K) := by
  obtain ⟨ffollowed, fdfollowed, Dfollowed⟩ := T.d_followed
  have Gfollowed : FnOk P w K mg base CX0 1 ffollowed fdfollowed ["leads", "block"] (spfollowed K) := okfollowed T Dfollowed
  refine D.F.ok scall_rings (fun vs H Q E h => ?_) (fun cdv A outer s H vs Q E hr h => ?_)
  · obtain ⟨l, es, fs, rfl, _⟩ := h
    rfl
  · obtain ⟨l, es, fs, rfl, hl, R, l12, q⟩ := h
    have lf := R.len
    have ll : ((ldL es fs).map V.int).length = es.length := by rw [List.length_map, ldL_len, ← lf]
    have hr1 : -100000 ≤ ((((ldL es fs).map V.int).length : Nat) : Int) ∧ ((((ldL es fs).map V.int).length : Nat) : Int) ≤ 100000 := by rw [ll]; omega
    refine ⟨_, (pss_cons (ps_setLc (i := 1) (own := [("block", 2)]) (g := gName 2) (tt := tYes) rfl scall_rings.nd rfl rfl (sw_true rfl rfl rfl (by decide +kernel)) (pi_range1 (by rfl) T.b_range (pa_cons (pe_callB (r := rLenQ K) call_lenQ (by rfl) T.b_len PySem.boot_len (pa_cons (pv 0) pa_nil)) pa_nil))
      (blkOk_by (own := [("block", 2)]) (N := ["leads", "paths", "block", "path"]) (sc := defScope sall_rings) (by decide +kernel)) (fun _ _ _ _ _ => (pg_name (i := 2) scall_rings.nd rfl (.inl rfl))) (fun _ _ _ _ _ => pts_nil)
      (fun _ _ _ _ _ => (pe_call Gfollowed hr (by rfl) Dfollowed.g Dfollowed.F.kp Dfollowed.b .nil pass0 (pa_cons (pv 0) (pa_cons (pv 2) pa_nil)))))
    (pss_one (ps_ret (pe_lc (own := [("path", 3)]) (g := gName 3) (tt := _) rfl scall_rings.nd (pi_list (pv 1))
      (blkOk_by (own := [("path", 3)]) (N := ["leads", "paths", "block", "path"]) (sc := defScope sall_rings) (by decide +kernel)) (fun _ _ _ _ _ => (pg_name (i := 3) scall_rings.nd rfl (.inl rfl))) (fun _ _ _ _ _ => pts_one (PW.pt (pw_and (pt_cmpR op_gt (pe_callB (r := rLenQ K) call_lenQ (by rfl) T.b_len PySem.boot_len (pa_cons (pv 3) pa_nil)) pe_int (nomark _)) (pw_and (pt_cmpR op_eq (pe_ix (r := rIxT K) ix_tup (pv 0) (pe_ix (r := rIxT K) ix_tup (pv 3) (pe_un un_neg pe_int) (fun _ _ => rfl)) (fun _ _ => rfl)) (pe_ix (r := rIxT K) ix_tup (pv 3) pe_int (fun _ _ => rfl)) (nomark _)) (pw_and1 (pt_cmpR op_eq (pe_ix (r := rIxT K) ix_tup (pv 3) pe_int (fun _ _ => rfl)) (pe_callB (r := rMinT) (cr_minT rfl (by exact hr.units)) (by rfl) T.b_min (by decide +kernel) (pa_cons (pv 3) pa_nil)) (nomark _)))))))
      (fun _ _ _ _ _ => (pv 3)))))), ?_⟩
    walk_at "rx"
    rw [show (((((ldL es fs).map V.int).length : Nat) : Int)).toNat = es.length by rw [ll]; omega]
    refine lc_acc2 walk_rng (fun i acc H' => ∃ bs, acc = bs.map V.ref ∧ NRows H' bs ((List.range i).map (Fo es fs))) ⟨[], rfl, TupsAt.nil⟩ (fun i acc Ha Hb k pp => by obtain ⟨bs, e1, e2⟩ := pp; exact ⟨bs, e1, e2.kt k⟩) (fun i acc H' hi pp => by
      obtain ⟨bs, rfl, e2⟩ := pp
      have := NRows.len e2
      rw [List.length_map, List.length_range] at this
      rw [List.length_map]
      omega) (fun _ _ => trivial) ?_ ?_
    · rintro i x Hx Hy acc Qc R2 hi Sx ⟨bs, rfl, tb⟩ ⟨rfl, rfl⟩ qc rc
      have hlx := Sx _ _ hl
      walk_at "rx"
      refine ⟨rfl, ?_⟩
      walk_at "rx"
      refine ⟨l, es, fs, i, rfl, hlx, R, l12, hi, fun H3 p S3 hp => ?_⟩
      refine qc _ _ S3 ⟨bs ++ [p], by rw [List.map_append]; rfl, ?_⟩
      rw [List.range_succ, List.map_append]
      exact NRows.snoc (TupsAt.same S3 tb) hp
    · rintro H3 D acc S nD hD ⟨bs, rfl, tb⟩
      have lb : bs.length = es.length := by
        have := NRows.len tb
        rw [List.length_map, List.length_range] at this
        exact this
      have hl3 := S _ _ hl
      walk_at "rx"
      refine lc_acc2 (walk_list (xs := bs.map V.ref)) (fun i acc H' => ∃ cs, acc = cs.map V.ref ∧ NRows H' cs ((tops es fs i).map (Fo es fs))) ⟨[], rfl, TupsAt.nil⟩ (fun i acc Ha Hb k pp => by obtain ⟨bs, e1, e2⟩ := pp; exact ⟨bs, e1, e2.kt k⟩) (fun i acc H' hi pp => by
        obtain ⟨cs, rfl, e2⟩ := pp
        have := NRows.len e2
        have l2 := List.length_filter_le (fun b => decide (IsR (G es fs) (Fo es fs b))) (List.range i)
        rw [List.length_range] at l2
        rw [List.length_map] at this
        unfold tops at this
        rw [List.length_map] at hi ⊢
        omega) (fun H' S => SqL.of (S _ _ hD)) ?_ ?_
      · rintro i x Hx Hy acc Qc R2 hi Sx ⟨cs, rfl, tc⟩ ⟨rfl, ex⟩ qc rc
        rw [List.length_map] at hi
        have hi2 : i < es.length := by omega
        have ew : ((List.range es.length).map (Fo es fs))[i]? = some (Fo es fs i) := by
          rw [List.getElem?_map, List.getElem?_range hi2]
          rfl
        obtain ⟨b, e1, e2⟩ := NRows.at (TupsAt.same Sx tb) ew
        rw [List.getElem?_map, e1] at ex
        cases ex
        have hlx := Sx _ _ hl3
        obtain ⟨P, _⟩ := fo_p R hi2
        have la := nvs_last P.ne
        have lle := P.lt _ (last_mem P.ne)
        have ga := ldL_at (es := es) (fs := fs) (b := (Fo es fs i).getLastD 0) (by omega)
        have h0 : atI (nvs (Fo es fs i)) (0 : Int) = some (V.int (i : Int)) := nvs_atI (i := 0) P.hd
        have hd := P.headD
        have nx : tops es fs (i + 1) = tops es fs i ++ if IsR (G es fs) (Fo es fs i) then [i] else [] := by
          unfold tops
          rw [List.range_succ, List.filter_append]
          congr 1
          by_cases z : IsR (G es fs) (Fo es fs i)
          · rw [if_pos z, List.filter_cons_of_pos (by rw [decide_eq_true z])]; rfl
          · rw [if_neg z, List.filter_cons_of_neg (by rw [decide_eq_false z]; decide)]; rfl
        have no : ¬ IsR (G es fs) (Fo es fs i) → R2 Hy := fun k => rc Hy (Same.refl _) ⟨cs, rfl, by rw [nx, if_neg k, List.append_nil]; exact tc⟩
        walk_at "rx"
        refine ⟨rfl, ?_⟩
        walk_at "rx"
        by_cases z1 : 1 < (Fo es fs i).length
        · rw [decide_eq_true (show (1 : Int) < (((nvs (Fo es fs i)).length : Nat) : Int) by rw [nvs_len]; omega)]
          walk_at "rx"
          by_cases n : fs.getD ((Fo es fs i).getLastD 0) 0 = -1
          · rw [if_pos n] at ga ⊢
            rw [decide_eq_false (show ¬ V.int (-1) = V.int (i : Int) from fun w => by have := V.int.inj w; omega)]
            walk_at "rx"
            exact no fun k => (rg_end R hi2 k).2.1 n
          · rw [if_neg n] at ga ⊢
            by_cases z2 : G es fs ((Fo es fs i).getLastD 0) = i
            · rw [decide_eq_true (show V.int ((G es fs ((Fo es fs i).getLastD 0) : Nat) : Int) = V.int (i : Int) from by rw [z2])]
              walk_at "rx"
              refine rd_minT (ns := niz (Fo es fs i)) e2 (by rw [niz_len]; omega) fun m hm hle => ?_
              obtain ⟨x, rfl, hx⟩ := niz_of hm
              walk_at "rx"
              by_cases z3 : i = x
              · rw [decide_eq_true (show V.int (i : Int) = V.int (x : Int) from by rw [z3])]
                walk_at "rx"
                refine qc _ _ (Same.refl _) ⟨cs ++ [b], by rw [List.map_append]; rfl, ?_⟩
                rw [nx, if_pos ⟨z1, by rw [hd]; exact z2, fun y hy => by
                  rw [hd, z3]
                  have := hle _ (mem_niz.mpr hy)
                  omega⟩, List.map_append]
                exact tc.snoc e2
              · rw [decide_eq_false (show ¬ V.int (i : Int) = V.int (x : Int) from fun w => z3 (by have := V.int.inj w; omega))]
                walk_at "rx"
                refine no fun k => z3 ?_
                have k1 := k.2.2 x hx
                rw [hd] at k1
                have k2 := hle _ (mem_niz.mpr (List.mem_of_getElem? P.hd))
                omega
            · rw [decide_eq_false (show ¬ V.int ((G es fs ((Fo es fs i).getLastD 0) : Nat) : Int) = V.int (i : Int) from fun w => z2 (by have := V.int.inj w; omega))]
              walk_at "rx"
              exact no fun k => z2 (by have := k.2.1; rw [hd] at this; exact this)
        · rw [decide_eq_false (show ¬ (1 : Int) < (((nvs (Fo es fs i)).length : Nat) : Int) by rw [nvs_len]; omega)]
          walk_at "rx"
          exact no fun k => z1 k.1
      · rintro H4 D4 acc S4 nD4 hD4 ⟨cs, rfl, tc⟩
        rw [List.length_map, lb] at tc
        walk_at "rx"
        exact q H4 D4 cs (S.trans S4) hD4 tc (S.free nD4)
def spcheck_image (K : PySem.W.Frag) : Sp := fun vs H Q E => ∃ (v : V), vs = [v] ∧
  ((∃ es, IG H v es ∧ ∀ H', Same H H' → Q .non H') ∨ (∃ M k, IB M H v k ∧ ∀ H' d, Same H H' → H' d = some (.xd [("block", .int k)]) → E (.ref (atTop K "InvalidImage")) (some d) H'))
set_option maxHeartbeats 4000000 in
theorem okcheck_image (T : Top K mg) {f : Addr} {fd : FuncData} (D : Def K mg "check_image" scheck_image ["image"] f fd) : FnOk P w K mg base (L2N.CX P w) 3 f fd ["image"] (spcheck_image K) := by
  obtain ⟨fE_InvalidImage, fdE_InvalidImage, ET_InvalidImage, FE_InvalidImage, bE_InvalidImage⟩ := T.e_InvalidImage
  have GI_InvalidImage := okInit_InvalidImage (P := P) (w := w) (base := base) ET_InvalidImage FE_InvalidImage
  refine RN.okX D.F sccheck_image (fun vs H Q E h => ?_) (fun cdv A outer s H vs Q E hr h => ?_)
  · obtain ⟨v, rfl, _⟩ := h
    rfl
  · obtain ⟨v, rfl, hc⟩ := h
    refine ⟨_, (pss_cons (ps_if (PW.pt (pw_or (pt_not (pt_val (pe_callB (r := rIsO K) call_isO (by rfl) T.b_isinstance (by decide +kernel) (pa_cons (pv 0) (pa_cons (pe_bltn (v := .ty "tuple") (by rfl) T.b_tuple (by decide +kernel) rfl) pa_nil))))) (pw_or1 (pt_not (pt_chain op_le op_le pe_int (pe_callB (r := rLenQ K) call_lenQ (by rfl) T.b_len PySem.boot_len (pa_cons (pv 0) pa_nil)) (Rv.pe_k (by rfl) T.k__MOST_BLOCKS)))))) (pss_one (RN.ps_raiseQ rfl (L2N.takes_of rfl rfl rfl rfl) (RN.pmk_oex ET_InvalidImage.ox ET_InvalidImage.iC ET_InvalidImage.tI GI_InvalidImage (hr.mono (by decide)) bE_InvalidImage .nil pass0 (by rfl) ET_InvalidImage.gC (pa_cons (pe_un un_neg pe_int) pa_nil)))) pss_nil)
    (pss_one (ps_for (passes_of rfl) rfl (pi_enO (by rfl) T.b_enumerate (pa_cons (pv 0) pa_nil)) (pg_tup rfl (pgs_cons (pg_name (i := 1) sccheck_image.nd rfl (.inl rfl)) (pgs_cons (pg_name (i := 2) sccheck_image.nd rfl (.inl rfl)) pgs_nil))) (pss_one (ps_if (PW.pt (pw_or (pt_not (pt_val (pe_callB (r := rIsi K) call_isi (by rfl) T.b_isinstance (by decide +kernel) (pa_cons (pv 2) (pa_cons (pe_bltn (v := .ty "int") (by rfl) T.b_int (by decide +kernel) rfl) pa_nil))))) (pw_or1 (pt_not (pt_chain op_le op_le (Rv.pe_k (by rfl) T.k_EMPTY) (pv 2) (Rv.pe_k (by rfl) T.k__GREATEST)))))) (pss_one (RN.ps_raiseQ rfl (L2N.takes_of rfl rfl rfl rfl) (RN.pmk_oex ET_InvalidImage.ox ET_InvalidImage.iC ET_InvalidImage.tI GI_InvalidImage (hr.mono (by decide)) bE_InvalidImage .nil pass0 (by rfl) ET_InvalidImage.gC (pa_cons (pv 1) pa_nil)))) pss_nil))))), ?_⟩
    by_cases hv : ∃ p es, v = .ref p ∧ TG H p es ∧ 1 ≤ es.length ∧ es.length ≤ 12
    · obtain ⟨p, es, rfl, hp, x1, x12⟩ := hv
      obtain ⟨hG, hX⟩ : ((∀ i : Nat, i < es.length → EOk (es.getD i 0)) → ∀ H', Same H H' → Q .non H') ∧
          (∀ j : Nat, j < es.length → ¬ EOk (es.getD j 0) → (∀ i : Nat, i < j → EOk (es.getD i 0)) → ∀ H' d, Same H H' → H' d = some (.xd [("block", .int (j : Int))]) → E (.ref (atTop K "InvalidImage")) (some d) H') := by
        rcases hc with ⟨fs, ⟨a, e1, e2, I⟩, q⟩ | ⟨M, k, bad, q⟩
        · cases e1
          have e := hp.inj e2
          subst e
          exact ⟨fun _ => q, fun j hj n _ => absurd (I.2.2 _ (mem_at hj)) n⟩
        · rcases bad with ⟨_, ⟨p2, ys, e, _, h⟩ | ⟨p2, ys, e, h, l, _⟩⟩ | ⟨p2, ys, j, e, h, l1, l2, ek, hj, nx, ob⟩
          · cases e
            exact absurd h hp.nl
          · cases e
            rw [hp.inj h] at x1 x12
            omega
          · cases e
            have e := hp.inj h
            subst e
            refine ⟨fun g => absurd (g j hj) nx, fun j2 hj2 nx2 ob2 => ?_⟩
            have : j2 = j := by
              rcases Nat.lt_trichotomy j2 j with z | z | z
              · exact absurd (ob j2 z) nx2
              · exact z
              · exact absurd (ob2 j z) nx
            subst this
            rw [ek] at q
            exact q
      walk_at "rx"
      rw [decide_eq_true (show (1 : Int) ≤ ((es.length : Nat) : Int) by omega)]
      walk_at "rx"
      rw [decide_eq_true (show ((es.length : Nat) : Int) ≤ 12 by omega)]
      walk_at "rx"
      refine rd_EnO hp fun G hG0 => ?_
      refine fr_it walk_jen (fun i σ H' => ∃ y1 y2, σ = [some (.ref p), y1, y2] ∧ Same H H' ∧ ∀ j : Nat, j < i → EOk (es.getD j 0)) ⟨none, none, rfl, Same.refl H, fun j h => absurd h (Nat.not_lt_zero j)⟩ (fun i σ H' _ pp => ?_) ?_ ?_
      · obtain ⟨_, _, _, S, _⟩ := pp
        exact hG0 _ S
      · rintro i x σ H1 H2 hi ⟨y1, y2, rfl, S, ob⟩ ⟨t, u, w, rfl, nT, rfl, e1, e2⟩
        cases e1
        have hi2 : i < es.length := by rw [List.length_map] at hi; exact hi
        have e3 : (es.map V.int)[i]? = some w := e2
        rw [List.getElem?_map, get_at hi2] at e3
        cases e3
        have S3 := same_new (o := .tup [.int (i : Nat), V.int (es.getD i 0)]) S nT
        walk_at "rx"
        by_cases z1 : -1 ≤ es.getD i 0
        · rw [decide_eq_true z1]
          walk_at "rx"
          by_cases z2 : es.getD i 0 ≤ 999
          · rw [decide_eq_true z2]
            walk_at "rx"
            refine ⟨_, _, rfl, S3, fun j hj => ?_⟩
            by_cases z : j = i
            · rw [z]; exact ⟨z1, z2⟩
            · exact ob j (by omega)
          · rw [decide_eq_false z2]
            walk_at "rx"
            exact mkErr fun H8 d S8 hd => hX i hi2 (fun w => z2 w.2) ob H8 d (S3.trans S8) hd
        · rw [decide_eq_false z1]
          walk_at "rx"
          exact mkErr fun H8 d S8 hd => hX i hi2 (fun w => z1 w.1) ob H8 d (S3.trans S8) hd
      · rintro σ H' ⟨y1, y2, rfl, S, ob⟩
        exact hG (fun i hi => ob i (by rw [List.length_map]; exact hi)) _ S
    · rcases hc with ⟨es, ⟨a, e1, e2, I⟩, q⟩ | ⟨M, k, bad, q⟩
      · exact absurd ⟨a, _, e1, e2, I.1, I.2.1⟩ hv
      · rcases bad with ⟨ek, ⟨p2, ys, rfl, _, h⟩ | ⟨p2, ys, rfl, h, l, l2⟩⟩ | ⟨p2, ys, j, e, h, l1, l2, _⟩
        · rw [ek] at q
          walk_at "rx"
          refine rd_isOL h ?_
          walk_at "rx"
          exact mkErr fun H8 d S8 hd => q H8 d S8 hd
        · rw [ek] at q
          walk_at "rx"
          by_cases z1 : (1 : Int) ≤ ((ys.length : Nat) : Int)
          · rw [decide_eq_true z1]
            walk_at "rx"
            rw [decide_eq_false (show ¬ ((ys.length : Nat) : Int) ≤ 12 by omega)]
            walk_at "rx"
            exact mkErr fun H8 d S8 hd => q H8 d S8 hd
          · rw [decide_eq_false z1]
            walk_at "rx"
            exact mkErr fun H8 d S8 hd => q H8 d S8 hd
        · exact absurd ⟨p2, ys, e, h, l1, l2⟩ hv
def spcheck_renaming (K : PySem.W.Frag) : Sp := fun vs H Q E => ∃ (v1 v2 : V), vs = [v1, v2] ∧ PairS K H v1 v2 E fun _ _ _ _ => ∀ H', Same H H' → Q .non H'
set_option maxHeartbeats 4000000 in
theorem okcheck_renaming (T : Top K mg) {f : Addr} {fd : FuncData} (D : Def K mg "check_renaming" scheck_renaming ["before", "after"] f fd) : FnOk P w K mg base (L2N.CX P w) 4 f fd ["before", "after"] (spcheck_renaming K) := by
  have ET_NotRenaming := T.e_NotRenaming
  obtain ⟨fcheck_image, fdcheck_image, Dcheck_image⟩ := T.d_check_image
  have Gcheck_image : FnOk P w K mg base (L2N.CX P w) 3 fcheck_image fdcheck_image ["image"] (spcheck_image K) := okcheck_image T Dcheck_image
  refine RN.okX D.F sccheck_renaming (fun vs H Q E h => ?_) (fun cdv A outer s H vs Q E hr h => ?_)
  · obtain ⟨v1, v2, rfl, _⟩ := h
    rfl
  · obtain ⟨v1, v2, rfl, hc⟩ := h
    refine ⟨_, (pss_cons (ps_expr (pe_callS Gcheck_image hr (by rfl) Dcheck_image.g Dcheck_image.F.kp Dcheck_image.b (fun σ => L2N.passAt (L2N.takes_of rfl rfl rfl rfl) σ) (pa_cons (pv 0) pa_nil)))
    (pss_cons (ps_expr (pe_callS Gcheck_image hr (by rfl) Dcheck_image.g Dcheck_image.F.kp Dcheck_image.b (fun σ => L2N.passAt (L2N.takes_of rfl rfl rfl rfl) σ) (pa_cons (pv 1) pa_nil)))
    (pss_cons (ps_setLc (i := 2) (own := [("entry", 3)]) (g := gName 3) (tt := _) rfl sccheck_renaming.nd rfl rfl (sw_true rfl rfl rfl (by decide +kernel)) (pi_tup (pv 0))
      (blkOk_by (own := [("entry", 3)]) (N := ["before", "after", "values", "entry"]) (sc := defScope scheck_renaming) (by decide +kernel)) (fun _ _ _ _ _ => (pg_name (i := 3) sccheck_renaming.nd rfl (.inl rfl))) (fun _ _ _ _ _ => pts_one (pt_cmpR op_ne (pv 3) (Rv.pe_k (by rfl) T.k_EMPTY) (nomark _)))
      (fun _ _ _ _ _ => (pv 3)))
    (pss_one (ps_if (PW.pt (pw_or (pt_cmpR (op_neD hr.units) (pe_callB (r := rSortO K) cr_sortO (by rfl) T.b_sorted (by decide +kernel) (pa_cons (pv 0) pa_nil)) (pe_callB (r := rSortO K) cr_sortO (by rfl) T.b_sorted (by decide +kernel) (pa_cons (pv 1) pa_nil)) (nomark _)) (pw_or1 (pt_cmpR op_lt (pe_callB (r := rLenSO w) call_lenSO (by rfl) T.b_len PySem.boot_len (pa_cons (pe_callTy (r := rSetI K w) (cr_setI rfl) (by rfl) T.b_set (by decide +kernel) (pa_cons (pv 2) pa_nil)) pa_nil)) (pe_callB (r := rLenQ K) call_lenQ (by rfl) T.b_len PySem.boot_len (pa_cons (pv 2) pa_nil)) (nomark _))))) (pss_one (RN.ps_raiseQ rfl (L2N.takes_of rfl rfl rfl rfl) (RN.pmk_own0 PySem.F.excBase_ValueError ET_NotRenaming.q ET_NotRenaming.gC ET_NotRenaming.kC (raises_own ET_NotRenaming.bC ET_NotRenaming.tC) (by rfl)))) pss_nil))))), ?_⟩
    have hc2 : (∃ es fs, IG H v1 es ∧ IG H v2 fs ∧ ((Ren es fs ∧ ∀ H', Same H H' → Q .non H') ∨ (¬ Ren es fs ∧ ∀ H', Same H H' → E (.ref (atTop K "NotRenaming")) none H'))) ∨ (∃ M k, PB M H v1 v2 k ∧ ∀ H' d, Same H H' → H' d = some (.xd [("block", .int k)]) → E (.ref (atTop K "InvalidImage")) (some d) H') := by
      rcases hc with ⟨a, b, es, fs, rfl, rfl, r, q⟩ | ⟨M, k, bad, q⟩ | ⟨es, fs, i1, i2, n, q⟩
      · exact .inl ⟨es, fs, ⟨a, rfl, r.ta, r.ia⟩, ⟨b, rfl, r.tb, r.ib⟩, .inl ⟨r.rn, q⟩⟩
      · exact .inr ⟨M, k, bad, q⟩
      · exact .inl ⟨es, fs, i1, i2, .inr ⟨n, q⟩⟩
    rcases hc2 with ⟨es, fs, h1, h2, hq⟩ | ⟨M, k, bad, q⟩
    · walk_at "rx"
      refine ⟨v1, rfl, .inl ⟨es, h1, fun H1 S1 => ?_⟩⟩
      walk_at "rx"
      refine ⟨v2, rfl, .inl ⟨fs, h2.same S1, fun H2 S2 => ?_⟩⟩
      have S12 := S1.trans S2
      obtain ⟨a, rfl, ha, I⟩ := h1.same S12
      obtain ⟨b, rfl, hb, J⟩ := h2.same S12
      have e12 := I.2.1
      have f12 := J.2.1
      walk_at "rx"
      refine lc_acc (walk_tup (xs := es.map V.int)) (fun i acc => acc = (full (es.take i)).map V.int) rfl (fun i acc hi e => by
        rw [e, List.length_map]
        have := List.length_filter_le (fun x => !decide (x = -1)) (es.take i)
        unfold full
        rw [List.length_take] at this
        omega) (fun H' S => (ha.same S).sq) ?_ ?_
      · rintro i x Hx Hy acc Qc R hi Sx e ⟨rfl, ex⟩ qc rc
        have hi2 : i < es.length := by rw [List.length_map] at hi; exact hi
        rw [List.getElem?_map, List.getElem?_eq_getElem hi2] at ex
        cases ex
        have nx : ∀ r, (if es[i] = -1 then [] else [es[i]]) = r → full (es.take (i + 1)) = full (es.take i) ++ r := fun r er => by
          unfold full
          rw [take_next hi2, List.filter_append, ← er]
          congr 1
          by_cases z : es[i] = -1
          · rw [if_pos z, List.filter_cons_of_neg (by simpa using z)]; rfl
          · rw [if_neg z, List.filter_cons_of_pos (by simpa using z)]; rfl
        walk_at "rx"
        refine ⟨rfl, ?_⟩
        walk_at "rx"
        by_cases z : es[i] = -1
        · rw [decide_eq_true (show V.int es[i] = V.int (-1) from by rw [z])]
          walk_at "rx"
          refine rc _ (Same.refl _) ?_
          rw [nx _ rfl, if_pos z, List.append_nil]
          exact e
        · rw [decide_eq_false (show ¬ V.int es[i] = V.int (-1) from fun w => z (V.int.inj w))]
          walk_at "rx"
          refine qc _ _ (Same.refl _) ?_
          rw [nx _ rfl, if_neg z, List.map_append, e]
          rfl
      · intro H3 D acc S3 nD hD e
        rw [e, List.length_map, List.take_length] at hD
        have lf : (full es).length ≤ es.length := List.length_filter_le _ _
        have ha3 := ha.same S3
        walk_at "rx"
        refine rd_sortO ha3 (by omega) fun H4 p4 ms S4 n4 h4 pm4 pw4 => ?_
        have hb4 := (hb.same S3).same S4
        walk_at "rx"
        refine rd_sortO hb4 (by omega) fun H5 p5 ns S5 n5 h5 pm5 pw5 => ?_
        have h45 := S5 _ _ h4
        have hD5 := S5 _ _ (S4 _ _ hD)
        have S05 := ((S12.trans S3).trans S4).trans S5
        refine rd_neL h45 h5 ?_
        by_cases em : ms = ns
        · have pm : es.Perm fs := (pm4.symm.trans (by rw [em])).trans pm5
          rw [decide_eq_true em]
          walk_at "rx"
          refine rd_setI (.inl hD5) (by omega) fun H6 st c S6 n6 hc h6 => ?_
          walk_at "rx"
          refine rd_lenSO h6 fun hk => ?_
          obtain ⟨ks, k1, k2, k3⟩ := hk
          have hD6 := S6 _ _ hD5
          walk_at "rx"
          rw [List.length_map]
          by_cases nd : (full es).Nodup
          · have := card_nodup nd k1 k2
            rw [decide_eq_false (show ¬ ((c : Nat) : Int) < (((full es).length : Nat) : Int) by omega)]
            walk_at "rx"
            rcases hq with ⟨_, q⟩ | ⟨n, _⟩
            · exact q _ (S05.trans S6)
            · exact absurd ⟨pm, nd⟩ n
          · have := card_dup nd k1 k2
            rw [decide_eq_true (show ((c : Nat) : Int) < (((full es).length : Nat) : Int) by omega)]
            walk_at "rx"
            rcases hq with ⟨r, _⟩ | ⟨_, q⟩
            · exact absurd r.nd nd
            · exact q _ (S05.trans S6)
        · rw [decide_eq_false em]
          walk_at "rx"
          rcases hq with ⟨r, _⟩ | ⟨_, q⟩
          · exact absurd (srt_uniq ((pm4.trans r.pm).trans pm5.symm) pw4 pw5) em
          · exact q _ S05
    · walk_at "rx"
      rcases bad with bad | ⟨es, h1, bad⟩
      · exact ⟨v1, rfl, .inr ⟨M, k, bad, q⟩⟩
      · refine ⟨v1, rfl, .inl ⟨es, h1, fun H1 S1 => ?_⟩⟩
        walk_at "rx"
        exact ⟨v2, rfl, .inr ⟨M, k, bad.same S1, fun H' d S => q H' d (S1.trans S)⟩⟩
def sp_leads (K : PySem.W.Frag) : Sp := fun vs H Q E => ∃ (v1 v2 : V), vs = [v1, v2] ∧ PairS K H v1 v2 E fun _ _ es fs => ∀ H' p, Same H H' → H' p = some (.tup ((ldL es fs).map V.int)) → Q (.ref p) H'
set_option maxHeartbeats 4000000 in
theorem ok_leads (T : Top K mg) {f : Addr} {fd : FuncData} (D : Def K mg "_leads" s_leads ["before", "after"] f fd) : FnOk P w K mg base (L2N.CX P w) 5 f fd ["before", "after"] (sp_leads K) := by
  obtain ⟨fcheck_renaming, fdcheck_renaming, Dcheck_renaming⟩ := T.d_check_renaming
  have Gcheck_renaming : FnOk P w K mg base (L2N.CX P w) 4 fcheck_renaming fdcheck_renaming ["before", "after"] (spcheck_renaming K) := okcheck_renaming T Dcheck_renaming
  refine RN.okX D.F sc_leads (fun vs H Q E h => ?_) (fun cdv A outer s H vs Q E hr h => ?_)
  · obtain ⟨v1, v2, rfl, _⟩ := h
    rfl
  · obtain ⟨v1, v2, rfl, hc⟩ := h
    refine ⟨_, (pss_cons (ps_expr (pe_callS Gcheck_renaming hr (by rfl) Dcheck_renaming.g Dcheck_renaming.F.kp Dcheck_renaming.b (fun σ => L2N.passAt (L2N.takes_of rfl rfl rfl rfl) σ) (pa_cons (pv 0) (pa_cons (pv 1) pa_nil))))
    (pss_one (ps_ret (pe_callTy (r := rTupQ K) call_tupQ (by rfl) T.b_tuple (by decide +kernel) (pa_cons (pe_lc (own := [("entry", 2)]) (g := gName 2) (tt := tYes) rfl sc_leads.nd (pi_tup (pv 1))
      (blkOk_by (own := [("entry", 2)]) (N := ["before", "after", "entry"]) (sc := defScope s_leads) (by decide +kernel)) (fun _ _ _ _ _ => (pg_name (i := 2) sc_leads.nd rfl (.inl rfl))) (fun _ _ _ _ _ => pts_nil)
      (fun _ _ _ _ _ => (pe_ifExp (pt_cmpR op_eq (pv 2) (Rv.pe_k (by rfl) T.k_EMPTY) (nomark _)) (Rv.pe_k (by rfl) T.k_EMPTY) (pe_tix (pv 0) (pv 2))))) pa_nil))))), ?_⟩
    walk_at "rx"
    refine ⟨v1, v2, rfl, ?_⟩
    rcases hc with ⟨a, b, es, fs, rfl, rfl, r, q⟩ | hc
    · refine .inl ⟨a, b, es, fs, rfl, rfl, r, fun H1 S1 => ?_⟩
      have r1 := r.same S1
      have e12 := r.ia.2.1
      have f12 := r.ib.2.1
      have hb1 := r1.tb
      walk_at "rx"
      refine lc_map (walk_tup (xs := fs.map V.int)) ((ldL es fs).map V.int) (by rw [List.length_map, List.length_map]; exact ldL_len es fs) (by rw [List.length_map]; omega) (fun H' S => (hb1.same S).sq) ?_ ?_
      · rintro i x Hx Hy Qc R hi Sx ⟨rfl, ex⟩ qc
        have hi2 : i < fs.length := by rw [List.length_map] at hi; exact hi
        rw [List.getElem?_map, get_at hi2] at ex
        cases ex
        have ga := r1.ga.same Sx
        have il : ((ldL es fs).map V.int)[i]? = some (V.int (if fs.getD i 0 = -1 then -1 else ((es.idxOf (fs.getD i 0) : Nat) : Int))) := by
          unfold ldL
          rw [List.getElem?_map, List.getElem?_map, get_at hi2]
          rfl
        walk_at "rx"
        refine ⟨rfl, ?_⟩
        walk_at "rx"
        by_cases z : fs.getD i 0 = -1
        · rw [decide_eq_true (show V.int (fs.getD i 0) = V.int (-1) from by rw [z])]
          walk_at "rx"
          rw [if_pos z] at il
          exact qc _ _ (Same.refl _) il
        · rw [decide_eq_false (show ¬ V.int (fs.getD i 0) = V.int (-1) from fun w => z (V.int.inj w))]
          walk_at "rx"
          rw [if_neg z] at il
          refine rd_tixI rfl rfl ga (r.rn.pm.mem_iff.mpr (mem_at hi2)) ?_
          exact qc _ _ (Same.refl _) il
      · intro H2 D S2 nD hD
        walk_at "rx"
        refine rd_newL fun H3 p S3 np hp => q H3 p ((S1.trans S2).trans S3) hp
    · exact .inr hc
def springs (K : PySem.W.Frag) : Sp := fun vs H Q E => ∃ (v1 v2 : V), vs = [v1, v2] ∧ PairS K H v1 v2 E fun _ _ es fs => ∀ H' l bs, Same H H' → H' l = some (.lst (bs.map V.ref)) → NRows H' bs ((tops es fs es.length).map (Fo es fs)) → H l = none → Q (.ref l) H'
set_option maxHeartbeats 4000000 in
theorem okrings (T : Top K mg) {f : Addr} {fd : FuncData} (D : Def K mg "rings" srings ["before", "after"] f fd) : FnOk P w K mg base (L2N.CX P w) 6 f fd ["before", "after"] (springs K) := by
  obtain ⟨fall_rings, fdall_rings, Dall_rings⟩ := T.d_all_rings
  have Gall_rings : FnOk P w K mg base CX0 2 fall_rings fdall_rings ["leads"] (spall_rings K) := okall_rings T Dall_rings
  obtain ⟨f_leads, fd_leads, D_leads⟩ := T.d__leads
  have G_leads : FnOk P w K mg base (L2N.CX P w) 5 f_leads fd_leads ["before", "after"] (sp_leads K) := ok_leads T D_leads
  refine RN.okX D.F scrings (fun vs H Q E h => ?_) (fun cdv A outer s H vs Q E hr h => ?_)
  · obtain ⟨v1, v2, rfl, _⟩ := h
    rfl
  · obtain ⟨v1, v2, rfl, hc⟩ := h
    refine ⟨_, (pss_one (ps_ret (pe_call Gall_rings (hr.mono (by decide)) (by rfl) Dall_rings.g Dall_rings.F.kp Dall_rings.b .nil pass0 (pa_cons (pe_callS G_leads hr (by rfl) D_leads.g D_leads.F.kp D_leads.b (fun σ => L2N.passAt (L2N.takes_of rfl rfl rfl rfl) σ) (pa_cons (pv 0) (pa_cons (pv 1) pa_nil))) pa_nil)))), ?_⟩
    walk_at "rx"
    refine ⟨v1, v2, rfl, ?_⟩
    rcases hc with ⟨a, b, es, fs, rfl, rfl, r, q⟩ | hc
    · refine .inl ⟨a, b, es, fs, rfl, rfl, r, fun H1 ld S1 hld => ?_⟩
      walk_at "rx"
      exact ⟨ld, es, fs, rfl, hld, r.rn, r.ia.2.1, fun H2 l bs S2 h2 t2 n2 => q H2 l bs (S1.trans S2) h2 t2 (S1.free n2)⟩
    · exact .inr hc
def spmoving (K : PySem.W.Frag) : Sp := fun vs H Q E => ∃ (v1 v2 : V), vs = [v1, v2] ∧ PairS K H v1 v2 E fun _ _ es fs => ∀ H' p (ms : List Int), Same H H' → H' p = some (.tup (ms.map V.int)) → ms.Perm (mvA es fs es.length) → ms.Pairwise (· ≤ ·) → Q (.ref p) H'
set_option maxHeartbeats 4000000 in
theorem okmoving (T : Top K mg) {f : Addr} {fd : FuncData} (D : Def K mg "moving" smoving ["before", "after"] f fd) : FnOk P w K mg base (L2N.CX P w) 5 f fd ["before", "after"] (spmoving K) := by
  obtain ⟨fcheck_renaming, fdcheck_renaming, Dcheck_renaming⟩ := T.d_check_renaming
  have Gcheck_renaming : FnOk P w K mg base (L2N.CX P w) 4 fcheck_renaming fdcheck_renaming ["before", "after"] (spcheck_renaming K) := okcheck_renaming T Dcheck_renaming
  refine RN.okX D.F scmoving (fun vs H Q E h => ?_) (fun cdv A outer s H vs Q E hr h => ?_)
  · obtain ⟨v1, v2, rfl, _⟩ := h
    rfl
  · obtain ⟨v1, v2, rfl, hc⟩ := h
    refine ⟨_, (pss_cons (ps_expr (pe_callS Gcheck_renaming hr (by rfl) Dcheck_renaming.g Dcheck_renaming.F.kp Dcheck_renaming.b (fun σ => L2N.passAt (L2N.takes_of rfl rfl rfl rfl) σ) (pa_cons (pv 0) (pa_cons (pv 1) pa_nil))))
    (pss_one (ps_ret (pe_callTy (r := rTupQ K) call_tupQ (by rfl) T.b_tuple (by decide +kernel) (pa_cons (pe_callB (r := rSorted K) cr_sorted (by rfl) T.b_sorted (by decide +kernel) (pa_cons (pe_lc (own := [("entry", 2), ("now", 3)]) (g := gTup K 2 (gCons (gName 2) (gCons (gName 3) gNil))) (tt := _) rfl scmoving.nd (pi_zpA (K := K) rfl (by rfl) T.b_zip (pa_cons (pv 0) (pa_cons (pv 1) pa_nil)))
      (blkOk_by (own := [("entry", 2), ("now", 3)]) (N := ["before", "after", "entry", "now"]) (sc := defScope smoving) (by decide +kernel)) (fun _ _ _ _ _ => (pg_tup rfl (pgs_cons (pg_name (i := 2) scmoving.nd rfl (.inl rfl)) (pgs_cons (pg_name (i := 3) scmoving.nd rfl (.inl rfl)) pgs_nil)))) (fun _ _ _ _ _ => pts_one (pt_cmpR (r := rIn K true) op_notIn_seq (pv 3) (pe_tup (pa_cons (pv 2) (pa_cons (Rv.pe_k (by rfl) T.k_EMPTY) pa_nil))) (by rfl)))
      (fun _ _ _ _ _ => (pv 3))) pa_nil)) pa_nil))))), ?_⟩
    walk_at "rx"
    refine ⟨v1, v2, rfl, ?_⟩
    rcases hc with ⟨a, b, es, fs, rfl, rfl, r, q⟩ | hc
    · refine .inl ⟨a, b, es, fs, rfl, rfl, r, fun H1 S1 => ?_⟩
      have R := r.rn
      have e12 := r.ia.2.1
      have lf := R.len
      have r1 := r.same S1
      have ha1 := r1.ta
      have hb1 := r1.tb
      have ml : ∀ i, (mvA es fs i).length ≤ i := fun i => by
        have := List.length_filter_le (fun b => !decide (fs.getD b 0 = es.getD b 0) && !decide (fs.getD b 0 = -1)) (List.range i)
        rw [List.length_range] at this
        unfold mvA
        rw [List.length_map]
        exact this
      walk_at "rx"
      refine rd_ZpO ha1 hb1 ?_
      refine lc_acc (walk_zipT (n := es.length) (xs := es.map V.int) (ys := fs.map V.int) (by rw [List.length_map, List.length_map]; omega)) (fun i acc => acc = (mvA es fs i).map V.int) rfl (fun i acc hi e => by
        rw [e, List.length_map]
        have := ml i
        omega) (fun H' S => ⟨(ha1.same S).sq, (hb1.same S).sq⟩) ?_ ?_
      · rintro i x Hx Hy acc Qc R2 hi Sx e ⟨T1, u, w, rfl, nT, rfl, e3, e4⟩ qc rc
        have e5 : (es.map V.int)[i]? = some u := e3
        have e6 : (fs.map V.int)[i]? = some w := e4
        rw [List.getElem?_map, get_at hi] at e5
        rw [List.getElem?_map, get_at (by omega)] at e6
        cases e5
        cases e6
        have S4 := same_new (o := .tup [V.int (es.getD i 0), V.int (fs.getD i 0)]) (Same.refl Hx) nT
        have nx : mvA es fs (i + 1) = mvA es fs i ++ if fs.getD i 0 ∈ [es.getD i 0, -1] then [] else [fs.getD i 0] := by
          unfold mvA
          rw [List.range_succ, List.filter_append, List.map_append]
          congr 1
          by_cases z : fs.getD i 0 ∈ [es.getD i 0, -1]
          · rw [if_pos z, List.filter_cons_of_neg (by simp only [List.mem_cons, List.not_mem_nil, or_false] at z; rw [Bool.and_eq_true, Bool.not_eq_true', Bool.not_eq_true', decide_eq_false_iff_not, decide_eq_false_iff_not]; exact fun k => z.elim k.1 k.2)]; rfl
          · rw [if_neg z, List.filter_cons_of_pos (by simp only [List.mem_cons, List.not_mem_nil, or_false, not_or] at z; rw [Bool.and_eq_true, Bool.not_eq_true', Bool.not_eq_true', decide_eq_false_iff_not, decide_eq_false_iff_not]; exact z)]; rfl
        walk_at "rx"
        refine ⟨rfl, ?_⟩
        walk_at "rx"
        refine rd_newQ (by simp) fun H5 p5 S5 n5 h5 => ?_
        refine rd_ninT h5 rfl rfl ?_
        have hin : inV (V.int (fs.getD i 0)) [V.int (es.getD i 0), V.int (-1)] = decide (fs.getD i 0 ∈ [es.getD i 0, -1]) := inV_ints (ns := [es.getD i 0, -1])
        rw [hin]
        by_cases z : fs.getD i 0 ∈ [es.getD i 0, -1]
        · rw [decide_eq_true z]
          walk_at "rx"
          refine rc _ (S4.trans S5) ?_
          rw [nx, if_pos z, List.append_nil]
          exact e
        · rw [decide_eq_false z]
          walk_at "rx"
          refine qc _ _ (S4.trans S5) ?_
          rw [nx, if_neg z, List.map_append, e]
          rfl
      · intro H2 D acc S2 nD hD e
        have := ml es.length
        rw [e] at hD
        walk_at "rx"
        refine rd_sorted hD (by omega) fun H3 p3 ms S3 n3 h3 pm pw => ?_
        walk_at "rx"
        refine rd_newL fun H4 p4 S4 n4 h4 => q H4 p4 ms (((S1.trans S2).trans S3).trans S4) h4 pm pw
    · exact .inr hc
def sp_law_whole (_K : PySem.W.Frag) : Sp := fun vs H Q _ => ∃ i : Int, vs = [.int i] ∧ Q (.bl true) H
set_option maxHeartbeats 4000000 in
theorem ok_law_whole (T : Top K mg) {f : Addr} {fd : FuncData} (D : Def K mg "_law_whole" s_law_whole ["told"] f fd) : FnOk P w K mg base CX0 1 f fd ["told"] (sp_law_whole K) := by
  refine D.F.ok sc_law_whole (fun vs H Q E h => ?_) (fun cdv A outer s H vs Q E hr h => ?_)
  · obtain ⟨i, rfl, _⟩ := h
    rfl
  · obtain ⟨i, rfl, q⟩ := h
    refine ⟨_, (pss_one (ps_ret (pe_and (pe_callB (r := rIsi K) call_isi (by rfl) T.b_isinstance (by decide +kernel) (pa_cons (pv 0) (pa_cons (pe_bltn (v := .ty "int") (by rfl) T.b_int (by decide +kernel) rfl) pa_nil))) (pe_one (pe_not (pe_callB (r := rIsi K) call_isi (by rfl) T.b_isinstance (by decide +kernel) (pa_cons (pv 0) (pa_cons (pe_bltn (v := .ty "bool") (by rfl) T.b_bool (by decide +kernel) rfl) pa_nil)))))))), ?_⟩
    walk_at "rx"
    exact q
set_option maxHeartbeats 4000000 in
theorem okQ_law_whole (T : Top K mg) {f : Addr} {fd : FuncData} (D : Def K mg "_law_whole" s_law_whole ["told"] f fd) : L2H.FnH P w K mg base CX0 1 f fd ["told"] (sp_law_whole K) := by
  refine RN.okH D.F sc_law_whole (fun vs H Q E h => ?_) (fun cdv A outer s H vs Q E p hot hr h => ?_)
  · obtain ⟨i, rfl, _⟩ := h
    rfl
  · obtain ⟨i, rfl, q⟩ := h
    refine ⟨_, (pss_one (ps_ret (pe_and (pe_callB (r := rIsi K) call_isi (by rfl) T.b_isinstance (by decide +kernel) (pa_cons (pv 0) (pa_cons (pe_bltn (v := .ty "int") (by rfl) T.b_int (by decide +kernel) rfl) pa_nil))) (pe_one (pe_not (pe_callB (r := rIsi K) call_isi (by rfl) T.b_isinstance (by decide +kernel) (pa_cons (pv 0) (pa_cons (pe_bltn (v := .ty "bool") (by rfl) T.b_bool (by decide +kernel) rfl) pa_nil)))))))), ?_⟩
    walk_at "rx"
    exact q
def sp_law_row (_K : PySem.W.Frag) : Sp := fun vs H Q _ => ∃ (p : Addr) (ns : List Int), vs = [.ref p] ∧ H p = some (.tup (ns.map V.int)) ∧ Q (.bl true) H
set_option maxHeartbeats 4000000 in
theorem ok_law_row (T : Top K mg) {f : Addr} {fd : FuncData} (D : Def K mg "_law_row" s_law_row ["told"] f fd) : FnOk P w K mg base CX0 2 f fd ["told"] (sp_law_row K) := by
  obtain ⟨f_law_whole, fd_law_whole, D_law_whole⟩ := T.d__law_whole
  have G_law_whole : FnOk P w K mg base CX0 1 f_law_whole fd_law_whole ["told"] (sp_law_whole K) := ok_law_whole T D_law_whole
  refine D.F.ok sc_law_row (fun vs H Q E h => ?_) (fun cdv A outer s H vs Q E hr h => ?_)
  · obtain ⟨p, ns, rfl, _⟩ := h
    rfl
  · obtain ⟨p, ns, rfl, hp, q⟩ := h
    refine ⟨_, (pss_cons (ps_if (pt_not (pt_val (pe_callB (r := rIsi K) call_isi (by rfl) T.b_isinstance (by decide +kernel) (pa_cons (pv 0) (pa_cons (pe_bltn (v := .ty "tuple") (by rfl) T.b_tuple (by decide +kernel) rfl) pa_nil))))) (pss_one (ps_ret pe_bl)) pss_nil)
    (pss_cons (ps_for PassesOwn.never rfl (pi_tup (pv 0)) (pg_name (i := 1) sc_law_row.nd rfl (.inl rfl)) (pss_one (ps_if (pt_not (pt_val (pe_call G_law_whole hr (by rfl) D_law_whole.g D_law_whole.F.kp D_law_whole.b .nil pass0 (pa_cons (pv 1) pa_nil)))) (pss_one (ps_ret pe_bl)) pss_nil)))
    (pss_one (ps_ret pe_bl)))), ?_⟩
    walk_at "rx"
    refine fr_it (walk_tup (xs := ns.map V.int)) (fun i σ H' => ∃ (y1 : Option V), σ = [some (.ref p), y1] ∧ H' = H) ⟨none, rfl, rfl⟩ (fun i σ H' _ pp => ?_) ?_ ?_
    · obtain ⟨_, _, rfl⟩ := pp
      exact SqT.of hp
    · rintro i x σ Ha Hb hi ⟨y1, rfl, rfl⟩ ⟨eH, ex⟩
      subst eH
      rw [List.length_map] at hi
      rw [List.getElem?_map, List.getElem?_eq_getElem hi] at ex
      cases ex
      walk_at "rx"
      refine ⟨_, rfl, ?_⟩
      walk_at "rx"
      exact ⟨_, rfl, rfl⟩
    · rintro σ Ha ⟨y1, rfl, rfl⟩
      walk_at "rx"
      exact q
set_option maxHeartbeats 4000000 in
theorem okQ_law_row (T : Top K mg) {f : Addr} {fd : FuncData} (D : Def K mg "_law_row" s_law_row ["told"] f fd) : L2H.FnH P w K mg base CX0 2 f fd ["told"] (sp_law_row K) := by
  obtain ⟨f_law_whole, fd_law_whole, D_law_whole⟩ := T.d__law_whole
  have GQ_law_whole : L2H.FnH P w K mg base CX0 1 f_law_whole fd_law_whole ["told"] (sp_law_whole K) := okQ_law_whole T D_law_whole
  refine RN.okH D.F sc_law_row (fun vs H Q E h => ?_) (fun cdv A outer s H vs Q E p hot hr h => ?_)
  · obtain ⟨p, ns, rfl, _⟩ := h
    rfl
  · obtain ⟨p, ns, rfl, hp, q⟩ := h
    refine ⟨_, (pss_cons (ps_if (pt_not (pt_val (pe_callB (r := rIsi K) call_isi (by rfl) T.b_isinstance (by decide +kernel) (pa_cons (pv 0) (pa_cons (pe_bltn (v := .ty "tuple") (by rfl) T.b_tuple (by decide +kernel) rfl) pa_nil))))) (pss_one (ps_ret pe_bl)) pss_nil)
    (pss_cons (L2H.ps_forH (passes_of rfl) (RN.hotC hot) (RH.pi_tupH (pv 0)) (pg_name (i := 1) sc_law_row.nd rfl (.inl rfl)) (pss_one (ps_if (pt_not (pt_val (L2H.pe_callH GQ_law_whole (L2H.RoomH.mono hr (by decide)) (RN.hotC hot) (by rfl) D_law_whole.g D_law_whole.F.kp D_law_whole.b RN.at0 (pa_cons (pv 1) pa_nil)))) (pss_one (ps_ret pe_bl)) pss_nil)))
    (pss_one (ps_ret pe_bl)))), ?_⟩
    walk_at "rx"
    refine fr_it (walk_tup (xs := ns.map V.int)) (fun i σ H' => ∃ (y1 : Option V), σ = [some (.ref p), y1] ∧ H' = H) ⟨none, rfl, rfl⟩ (fun i σ H' _ pp => ?_) ?_ ?_
    · obtain ⟨_, _, rfl⟩ := pp
      exact SqT.of hp
    · rintro i x σ Ha Hb hi ⟨y1, rfl, rfl⟩ ⟨eH, ex⟩
      subst eH
      rw [List.length_map] at hi
      rw [List.getElem?_map, List.getElem?_eq_getElem hi] at ex
      cases ex
      walk_at "rx"
      refine ⟨_, rfl, ?_⟩
      walk_at "rx"
      exact ⟨_, rfl, rfl⟩
    · rintro σ Ha ⟨y1, rfl, rfl⟩
      walk_at "rx"
      exact q
def sp_law_rings_told (_K : PySem.W.Frag) : Sp := fun vs H Q _ => ∃ (a b m c : Addr) (es fs ms : List Int) (bs : List Addr), vs = [.ref a, .ref b, .ref m, .ref c] ∧ RP H a b es fs ∧ H m = some (.lst (ms.map V.int)) ∧ ms.Perm (mvA es fs es.length) ∧ ms.Pairwise (· ≤ ·) ∧ H c = some (.lst (bs.map V.ref)) ∧ NRows H bs (rngs es fs) ∧ ∀ H', Same H H' → Q (.bl true) H'
set_option maxHeartbeats 4000000 in
theorem ok_law_rings_told (T : Top K mg) {f : Addr} {fd : FuncData} (D : Def K mg "_law_rings_told" s_law_rings_told ["before", "after", "moved", "circles"] f fd) : FnOk P w K mg base CX0 7 f fd ["before", "after", "moved", "circles"] (sp_law_rings_told K) := by
  obtain ⟨frings, fdrings, Drings⟩ := T.d_rings
  have Grings : FnOk P w K mg base (L2N.CX P w) 6 frings fdrings ["before", "after"] (springs K) := okrings T Drings
  obtain ⟨fmoving, fdmoving, Dmoving⟩ := T.d_moving
  have Gmoving : FnOk P w K mg base (L2N.CX P w) 5 fmoving fdmoving ["before", "after"] (spmoving K) := okmoving T Dmoving
  obtain ⟨f_law_row, fd_law_row, D_law_row⟩ := T.d__law_row
  have G_law_row : FnOk P w K mg base CX0 2 f_law_row fd_law_row ["told"] (sp_law_row K) := ok_law_row T D_law_row
  refine D.F.ok sc_law_rings_told (fun vs H Q E h => ?_) (fun cdv A outer s H vs Q E hr h => ?_)
  · obtain ⟨a, b, m, c, es, fs, ms, bs, rfl, _⟩ := h
    rfl
  · obtain ⟨a, b, m, c, es, fs, ms, bs, rfl, r, hm, pm, pw, hc, tb, q⟩ := h
    have R := r.rn
    have e12 := r.ia.2.1
    have lf := R.len
    refine ⟨_, (pss_cons (ps_set (i := 4) sc_law_rings_told.nd rfl (.inl rfl) (pe_call Grings hr (by rfl) Drings.g Drings.F.kp Drings.b .nil RN.passL (pa_cons (pv 0) (pa_cons (pv 1) pa_nil))))
    (pss_cons (ps_if (PW.pt (pw_or (pt_not (pt_val (pe_callB (r := rIsi K) call_isi (by rfl) T.b_isinstance (by decide +kernel) (pa_cons (pv 4) (pa_cons (pe_bltn (v := .ty "list") (by rfl) T.b_list (by decide +kernel) rfl) pa_nil))))) (pw_or1 (pt_cmpR op_ne (pe_callB (r := rLenQ K) call_lenQ (by rfl) T.b_len PySem.boot_len (pa_cons (pv 4) pa_nil)) (pe_callB (r := rLenQ K) call_lenQ (by rfl) T.b_len PySem.boot_len (pa_cons (pv 3) pa_nil)) (nomark _))))) (pss_one (ps_ret pe_bl)) pss_nil)
    (pss_cons (ps_for PassesOwn.never rfl (pi_range1 (by rfl) T.b_range (pa_cons (pe_callB (r := rLenQ K) call_lenQ (by rfl) T.b_len PySem.boot_len (pa_cons (pv 3) pa_nil)) pa_nil)) (pg_name (i := 5) sc_law_rings_told.nd rfl (.inl rfl)) (pss_one (ps_if (PW.pt (pw_or (pt_not (pt_val (pe_call G_law_row (hr.mono (by decide)) (by rfl) D_law_row.g D_law_row.F.kp D_law_row.b .nil pass0 (pa_cons (pe_ix (r := rIxL K) ix_list (pv 4) (pv 5) (fun _ _ => rfl)) pa_nil)))) (pw_or1 (pt_cmpR (op_neD hr.units) (pe_ix (r := rIxL K) ix_list (pv 4) (pv 5) (fun _ _ => rfl)) (pe_ix (r := rIxL K) ix_list (pv 3) (pv 5) (fun _ _ => rfl)) (nomark _))))) (pss_one (ps_ret pe_bl)) pss_nil)))
    (pss_cons (ps_set (i := 6) sc_law_rings_told.nd rfl (.inl rfl) (pe_call Gmoving (hr.mono (by decide)) (by rfl) Dmoving.g Dmoving.F.kp Dmoving.b .nil RN.passL (pa_cons (pv 0) (pa_cons (pv 1) pa_nil))))
    (pss_one (ps_ret (pe_and (pe_call G_law_row (hr.mono (by decide)) (by rfl) D_law_row.g D_law_row.F.kp D_law_row.b .nil pass0 (pa_cons (pv 6) pa_nil)) (pe_one (pe_cmpR (op_eqD hr.units) (pv 6) (pe_callTy (r := rTupQ K) call_tupQ (by rfl) T.b_tuple (by decide +kernel) (pa_cons (pv 2) pa_nil)) (nomark _)))))))))), ?_⟩
    walk_at "rx"
    refine ⟨.ref a, .ref b, rfl, .inl ⟨a, b, es, fs, rfl, rfl, r, fun H1 l cs S1 hl tl nl => ?_⟩⟩
    have r1 := r.same S1
    have hc1 := S1 _ _ hc
    have tb1 := TupsAt.same S1 tb
    walk_at "rx"
    have tl : NRows H1 cs (rngs es fs) := tl
    have lb := NRows.len tb
    have lc := NRows.len tl
    have few := rngs_few (es := es) (fs := fs)
    rw [decide_eq_true (show V.int (((cs.map V.ref).length : Nat) : Int) = V.int (((bs.map V.ref).length : Nat) : Int) by rw [List.length_map, List.length_map, lb, lc])]
    have hr1 : -100000 ≤ (((bs.map V.ref).length : Nat) : Int) ∧ (((bs.map V.ref).length : Nat) : Int) ≤ 100000 := by rw [List.length_map]; omega
    walk_at "rx"
    refine fr_rng0 (fun i σ H' => ∃ (y5 : Option V), σ = [some (.ref a), some (.ref b), some (.ref m), some (.ref c), some (.ref l), y5, none] ∧ H' = H1) ⟨none, rfl, rfl⟩ ?_ ?_
    · rintro i σ Ha hi ⟨y5, rfl, rfl⟩
      rw [List.length_map] at hi
      have eb : bs[i]? = some bs[i] := List.getElem?_eq_getElem (by omega)
      have ec : cs[i]? = some cs[i] := List.getElem?_eq_getElem (by omega)
      obtain ⟨p1, f1, g1⟩ := NRows.get tb1 eb
      obtain ⟨p2, f2, g2⟩ := NRows.get tl ec
      have f2 : (rngs es fs)[i]? = some p2 := f2
      rw [f1] at f2
      cases f2
      have ab : atI (bs.map V.ref) (i : Int) = some (.ref bs[i]) := atI_nat (by rw [List.getElem?_map, eb]; rfl)
      have ac : atI (cs.map V.ref) (i : Int) = some (.ref cs[i]) := atI_nat (by rw [List.getElem?_map, ec]; rfl)
      walk_at "rx"
      refine ⟨cs[i], niz p1, rfl, g2, ?_⟩
      walk_at "rx"
      refine rd_neI (a := niz p1) (b := niz p1) (TG.of g2) (TG.of g1) ?_
      rw [decide_eq_true rfl]
      walk_at "rx"
      exact ⟨_, rfl, rfl⟩
    rintro σ Ha ⟨y5, rfl, rfl⟩
    have hm1 := S1 _ _ hm
    walk_at "rx"
    refine ⟨.ref a, .ref b, rfl, .inl ⟨a, b, es, fs, rfl, rfl, r1, fun H2 p m2 S2 hp pm2 pw2 => ?_⟩⟩
    have hm2 := S2 _ _ hm1
    have e : m2 = ms := srt_uniq (pm2.trans pm.symm) pw2 pw
    subst e
    walk_at "rx"
    refine ⟨p, m2, rfl, hp, ?_⟩
    walk_at "rx"
    refine rd_newL fun H3 t S3 nt ht => ?_
    refine rd_eqI (TG.of (S3 _ _ hp)) (TG.of ht) ?_
    rw [decide_eq_true rfl]
    exact q _ ((S1.trans S2).trans S3)
def sp_sign (_K : PySem.W.Frag) : Sp := fun vs H Q _ => ∃ e : Int, vs = [.int e] ∧ (-1 ≤ e ∧ e ≤ 999) ∧ Q (.str (one (sg e))) H
set_option maxHeartbeats 4000000 in
theorem ok_sign (T : Top K mg) {f : Addr} {fd : FuncData} (D : Def K mg "_sign" s_sign ["entry"] f fd) : FnOk P w K mg base CX0 1 f fd ["entry"] (sp_sign K) := by
  refine D.F.ok sc_sign (fun vs H Q E h => ?_) (fun cdv A outer s H vs Q E hr h => ?_)
  · obtain ⟨e, rfl, _⟩ := h
    rfl
  · obtain ⟨e, rfl, ⟨he0, he1⟩, q⟩ := h
    refine ⟨_, (pss_cons (ps_if (pt_cmpR op_eq (pv 0) (Rv.pe_k (by rfl) T.k_EMPTY) (nomark _)) (pss_one (ps_ret pe_str)) pss_nil)
    (pss_one (ps_ret (pe_callTy call_strQ (by rfl) T.b_str (by decide +kernel) (pa_cons (pe_op op_fdivN (pv 0) pe_int) pa_nil))))), ?_⟩
    walk_at "rd"
    refine ite2 (fun z => ?_) (fun z => ?_)
    · have z1 : e = -1 := V.int.inj (of_decide_eq_true z)
      walk_at "rd"
      rw [z1] at q
      exact q
    · have z1 : e ≠ -1 := fun k => z (by rw [k]; rfl)
      walk_at "rd"
      obtain ⟨k0, k1⟩ := kind_small (e := e) (by omega) he1
      refine rd_strQ k0 k1 ?_
      rw [digit_txtI k0 k1]
      unfold sg at q
      rw [if_neg z1] at q
      exact q
def splook (_K : PySem.W.Frag) : Sp := fun vs H Q _ => ∃ (a : Addr) (es : List Int), vs = [.ref a] ∧ TG H a es ∧ Img es ∧ ∀ H', Same H H' → Q (.str (txt (codes es))) H'
set_option maxHeartbeats 4000000 in
theorem oklook (T : Top K mg) {f : Addr} {fd : FuncData} (D : Def K mg "look" slook ["image"] f fd) : FnOk P w K mg base CX0 4 f fd ["image"] (splook K) := by
  obtain ⟨fcheck_image, fdcheck_image, Dcheck_image⟩ := T.d_check_image
  have Gcheck_image : FnOk P w K mg base (L2N.CX P w) 3 fcheck_image fdcheck_image ["image"] (spcheck_image K) := okcheck_image T Dcheck_image
  obtain ⟨f_sign, fd_sign, D_sign⟩ := T.d__sign
  have G_sign : FnOk P w K mg base CX0 1 f_sign fd_sign ["entry"] (sp_sign K) := ok_sign T D_sign
  refine D.F.ok sclook (fun vs H Q E h => ?_) (fun cdv A outer s H vs Q E hr h => ?_)
  · obtain ⟨a, es, rfl, _⟩ := h
    rfl
  · obtain ⟨a, es, rfl, hT, I, q⟩ := h
    have I0 := I
    obtain ⟨I1, I2, I3⟩ := I
    refine ⟨_, (pss_cons (ps_expr (pe_call Gcheck_image hr (by rfl) Dcheck_image.g Dcheck_image.F.kp Dcheck_image.b .nil RN.passL (pa_cons (pv 0) pa_nil)))
    (pss_one (ps_ret (pe_join pe_str (pe_lc (own := [("entry", 1)]) (g := gName 1) (tt := tYes) rfl sclook.nd (pi_tup (pv 0))
      (blkOk_by (own := [("entry", 1)]) (N := ["image", "entry"]) (sc := defScope slook) (by decide +kernel)) (fun _ _ _ _ _ => (pg_name (i := 1) sclook.nd rfl (.inl rfl))) (fun _ _ _ _ _ => pts_nil)
      (fun _ _ _ _ _ => (pe_call G_sign (hr.mono (by decide)) (by rfl) D_sign.g D_sign.F.kp D_sign.b .nil pass0 (pa_cons (pv 1) pa_nil)))))))), ?_⟩
    walk_at "rx"
    refine ⟨.ref a, rfl, .inl ⟨es, ⟨a, rfl, hT, I0⟩, fun H1 S1 => ?_⟩⟩
    have hT1 := hT.same S1
    walk_at "rx"
    refine lc_map (walk_tup (xs := es.map V.int)) ((codes es).map fun c => V.str (one c)) ?_ ?_ (fun H' S => (hT1.same S).sq) ?_ ?_
    · simp [codes]
    · rw [List.length_map]
      omega
    · rintro i x H2 H3 Qc R hi S ⟨rfl, ex⟩ qc
      have hi2 : i < es.length := by rw [List.length_map] at hi; exact hi
      rw [List.getElem?_map, List.getElem?_eq_getElem hi2] at ex
      cases ex
      walk_at "rx"
      refine ⟨rfl, ?_⟩
      walk_at "rx"
      refine ⟨_, rfl, I3 _ (List.getElem_mem hi2), qc _ _ (Same.refl _) ?_⟩
      unfold codes
      rw [List.map_map, List.getElem?_map, List.getElem?_eq_getElem hi2]
      rfl
    · intro H2 D S nD hD
      walk_at "rx"
      refine ⟨_, D, (codes es).map one, rfl, rfl, .inl (SqL.of (by rw [List.map_map]; exact hD)), ?_, ?_⟩
      · rw [ones_sum, List.length_map, codes_len]
        show es.length + es.length * 0 ≤ _
        omega
      · rw [join_sg]
        exact q _ (S1.trans S)
def sp_is_of_one_kind (_K : PySem.W.Frag) : Sp := fun vs H Q _ => ∃ (a : Addr) (es : List Int), vs = [.ref a] ∧ TG H a es ∧ Img es ∧ ∀ H', Same H H' → Q (.bl (decide (mono es))) H'
set_option maxHeartbeats 4000000 in
theorem ok_is_of_one_kind (T : Top K mg) {f : Addr} {fd : FuncData} (D : Def K mg "_is_of_one_kind" s_is_of_one_kind ["image"] f fd) : FnOk P w K mg base CX0 5 f fd ["image"] (sp_is_of_one_kind K) := by
  obtain ⟨flook, fdlook, Dlook⟩ := T.d_look
  have Glook : FnOk P w K mg base CX0 4 flook fdlook ["image"] (splook K) := oklook T Dlook
  refine D.F.ok sc_is_of_one_kind (fun vs H Q E h => ?_) (fun cdv A outer s H vs Q E hr h => ?_)
  · obtain ⟨a, es, rfl, _⟩ := h
    rfl
  · obtain ⟨a, es, rfl, hT, I, q⟩ := h
    have I0 := I
    obtain ⟨I1, I2, I3⟩ := I
    refine ⟨_, (pss_one (ps_ret (pe_cmpR op_lt (pe_callB (r := rLenSK P w) call_lenSK (by rfl) T.b_len PySem.boot_len (pa_cons (pe_sk (P := P) (w := w) (own := [("sign", 1)]) (g := gName 1) (tt := _) rfl rfl rfl sc_is_of_one_kind.nd (pi_str (pe_call Glook hr (by rfl) Dlook.g Dlook.F.kp Dlook.b .nil pass0 (pa_cons (pv 0) pa_nil)))
      (blkOk_by (own := [("sign", 1)]) (N := ["image", "sign"]) (sc := defScope s_is_of_one_kind) (by decide +kernel)) (fun _ _ _ _ _ => (pg_name (i := 1) sc_is_of_one_kind.nd rfl (.inl rfl))) (fun _ _ _ _ _ => pts_one (pt_cmpR op_ne (pv 1) pe_str (nomark _)))
      (fun _ _ _ _ _ => (pv 1))) pa_nil)) pe_int (nomark _)))), ?_⟩
    walk_at "rx"
    refine ⟨a, es, rfl, hT, I0, fun H1 S1 => ?_⟩
    walk_at "rx"
    refine sk_it walk_its (fun i ks => ks = sgns (codes es) i) rfl (fun i ks hi e => by
      have := sgns_len (codes es) i
      have := codes_len es
      rw [e]
      omega) (fun _ _ => trivial) ?_ ?_
    · rintro i x H2 H3 ks Qc R hi S e ⟨rfl, hi2, rfl⟩ qc rc
      have nx := sgns_next hi2
      walk_at "rx"
      refine ⟨rfl, ?_⟩
      walk_at "rx"
      have ed : decide (V.str (one (codes es)[i]) = V.str (Str.ofString ".")) = decide ((codes es)[i] = 46) := decide_eq_decide.mpr ⟨fun k => sgn_inj (V.str.inj k), fun k => by rw [k]; rfl⟩
      rw [ed]
      by_cases z : (codes es)[i] = 46
      · rw [decide_eq_true z]
        walk_at "rx"
        refine rc _ (Same.refl _) ?_
        rw [nx, if_pos z, List.append_nil]
        exact e
      · rw [decide_eq_false z]
        walk_at "rx"
        refine qc _ _ (Same.refl _) ?_
        rw [nx, if_neg z, e]
    · rintro H2 d ks c S nD hc hD e
      rw [e] at hc
      walk_at "rx"
      refine rd_lenSK hD ?_
      walk_at "rx"
      rw [mono_dn I3 hc]
      exact q _ (S1.trans S)
def sp_is_crowded (_K : PySem.W.Frag) : Sp := fun vs H Q _ => ∃ (a b : Addr) (es fs : List Int), vs = [.ref a, .ref b] ∧ RP H a b es fs ∧ ∀ H', Same H H' → Q (.bl (decide (crowd es fs))) H'
set_option maxHeartbeats 4000000 in
theorem ok_is_crowded (T : Top K mg) {f : Addr} {fd : FuncData} (D : Def K mg "_is_crowded" s_is_crowded ["before", "after"] f fd) : FnOk P w K mg base (L2N.CX P w) 7 f fd ["before", "after"] (sp_is_crowded K) := by
  obtain ⟨frings, fdrings, Drings⟩ := T.d_rings
  have Grings : FnOk P w K mg base (L2N.CX P w) 6 frings fdrings ["before", "after"] (springs K) := okrings T Drings
  refine RN.okX D.F sc_is_crowded (fun vs H Q E h => ?_) (fun cdv A outer s H vs Q E hr h => ?_)
  · obtain ⟨a, b, es, fs, rfl, _⟩ := h
    rfl
  · obtain ⟨a, b, es, fs, rfl, r, q⟩ := h
    refine ⟨_, (pss_one (ps_ret (pe_and (pe_cmpR op_eq (pe_tcnt hr.units (pv 0) (Rv.pe_k (by rfl) T.k_EMPTY)) pe_int (nomark _)) (pe_one (pe_cmpR op_gt (pe_callB (r := rLenQ K) call_lenQ (by rfl) T.b_len PySem.boot_len (pa_cons (pe_callS Grings hr (by rfl) Drings.g Drings.F.kp Drings.b (fun σ => L2N.passAt (L2N.takes_of rfl rfl rfl rfl) σ) (pa_cons (pv 0) (pa_cons (pv 1) pa_nil))) pa_nil)) pe_int (nomark _)))))), ?_⟩
    walk_at "rx"
    refine rd_tcC rfl r.ga ?_
    walk_at "rx"
    by_cases z : es.count (-1) = 1
    · rw [decide_eq_true (show V.int ((es.count (-1) : Nat) : Int) = V.int 1 by rw [z]; rfl)]
      walk_at "rx"
      refine ⟨_, _, rfl, .inl ⟨a, b, es, fs, rfl, rfl, r, fun H1 l bs S1 hl tb _ => ?_⟩⟩
      have lb := NRows.len tb
      have ls2 : (tops es fs es.length).length ≤ es.length := by
        have := List.length_filter_le (fun b => decide (IsR (G es fs) (Fo es fs b))) (List.range es.length)
        rw [List.length_range] at this
        exact this
      have e12 := r.ia.2.1
      rw [List.length_map] at lb
      walk_at "rx"
      have := q _ S1
      have e : decide ((0 : Int) < (((bs.map V.ref).length : Nat) : Int)) = decide (crowd es fs) := by
        rw [decide_eq_decide, List.length_map, lb]
        unfold crowd rngs
        refine ⟨fun h => ⟨z, fun k => ?_⟩, fun h => ?_⟩
        · rw [List.map_eq_nil_iff.mp k] at h
          exact absurd h (by decide)
        · have : (tops es fs es.length).length ≠ 0 := fun k => h.2 (by rw [List.length_eq_zero_iff.mp k]; rfl)
          omega
      rw [e]
      exact this
    · rw [decide_eq_false (show ¬ V.int ((es.count (-1) : Nat) : Int) = V.int 1 from fun w => z (by have := V.int.inj w; omega))]
      walk_at "rx"
      have := q _ (Same.refl _)
      rw [decide_eq_false (fun w => z w.1)] at this
      exact this
def spobstacle (K : PySem.W.Frag) : Sp := fun vs H Q E => ∃ (v1 v2 : V), vs = [v1, v2] ∧ PairS K H v1 v2 E fun _ _ es fs => ObQ K H Q E es fs
set_option maxHeartbeats 4000000 in
theorem okobstacle (T : Top K mg) {f : Addr} {fd : FuncData} (D : Def K mg "obstacle" sobstacle ["before", "after"] f fd) : FnOk P w K mg base (L2N.CX P w) 8 f fd ["before", "after"] (spobstacle K) := by
  obtain ⟨fE_Undecided, fdE_Undecided, ET_Undecided, FE_Undecided, bE_Undecided⟩ := T.e_Undecided
  have GI_Undecided := okInit_Undecided (P := P) (w := w) (base := base) ET_Undecided FE_Undecided
  obtain ⟨fcheck_renaming, fdcheck_renaming, Dcheck_renaming⟩ := T.d_check_renaming
  have Gcheck_renaming : FnOk P w K mg base (L2N.CX P w) 4 fcheck_renaming fdcheck_renaming ["before", "after"] (spcheck_renaming K) := okcheck_renaming T Dcheck_renaming
  obtain ⟨f_is_of_one_kind, fd_is_of_one_kind, D_is_of_one_kind⟩ := T.d__is_of_one_kind
  have G_is_of_one_kind : FnOk P w K mg base CX0 5 f_is_of_one_kind fd_is_of_one_kind ["image"] (sp_is_of_one_kind K) := ok_is_of_one_kind T D_is_of_one_kind
  obtain ⟨flook, fdlook, Dlook⟩ := T.d_look
  have Glook : FnOk P w K mg base CX0 4 flook fdlook ["image"] (splook K) := oklook T Dlook
  obtain ⟨f_is_crowded, fd_is_crowded, D_is_crowded⟩ := T.d__is_crowded
  have G_is_crowded : FnOk P w K mg base (L2N.CX P w) 7 f_is_crowded fd_is_crowded ["before", "after"] (sp_is_crowded K) := ok_is_crowded T D_is_crowded
  obtain ⟨frings, fdrings, Drings⟩ := T.d_rings
  have Grings : FnOk P w K mg base (L2N.CX P w) 6 frings fdrings ["before", "after"] (springs K) := okrings T Drings
  refine RN.okX D.F scobstacle (fun vs H Q E h => ?_) (fun cdv A outer s H vs Q E hr h => ?_)
  · obtain ⟨v1, v2, rfl, _⟩ := h
    rfl
  · obtain ⟨v1, v2, rfl, hc⟩ := h
    refine ⟨_, (pss_cons (ps_expr (pe_callS Gcheck_renaming (hr.mono (by decide)) (by rfl) Dcheck_renaming.g Dcheck_renaming.F.kp Dcheck_renaming.b (fun σ => L2N.passAt (L2N.takes_of rfl rfl rfl rfl) σ) (pa_cons (pv 0) (pa_cons (pv 1) pa_nil))))
    (pss_cons (ps_if (pt_cmpR (op_eqD hr.units) (pv 0) (pv 1) (nomark _)) (pss_one (ps_ret pe_non)) pss_nil)
    (pss_cons (ps_if (pt_cmpR (r := rIn K true) op_notIn_seq (Rv.pe_k (by rfl) T.k_EMPTY) (pv 0) (by rfl)) (pss_one (ps_ret (pe_tup (pa_cons pe_str pa_nil)))) pss_nil)
    (pss_cons (ps_if (pt_cmpR op_eq (pe_call Glook (hr.mono (by decide)) (by rfl) Dlook.g Dlook.F.kp Dlook.b .nil pass0 (pa_cons (pv 0) pa_nil)) (pe_call Glook (hr.mono (by decide)) (by rfl) Dlook.g Dlook.F.kp Dlook.b .nil pass0 (pa_cons (pv 1) pa_nil)) (nomark _)) (pss_one (ps_ret (pe_tup (pa_cons pe_str pa_nil)))) pss_nil)
    (pss_cons (ps_if (pt_not (pt_val (pe_callS G_is_crowded hr (by rfl) D_is_crowded.g D_is_crowded.F.kp D_is_crowded.b (fun σ => L2N.passAt (L2N.takes_of rfl rfl rfl rfl) σ) (pa_cons (pv 0) (pa_cons (pv 1) pa_nil))))) (pss_one (ps_ret pe_non)) pss_nil)
    (pss_cons (ps_set (i := 2) scobstacle.nd rfl (.inl rfl) (pe_callTy (r := rTupQ K) call_tupQ (by rfl) T.b_tuple (by decide +kernel) (pa_cons (pe_callS Grings (hr.mono (by decide)) (by rfl) Drings.g Drings.F.kp Drings.b (fun σ => L2N.passAt (L2N.takes_of rfl rfl rfl rfl) σ) (pa_cons (pv 0) (pa_cons (pv 1) pa_nil))) pa_nil)))
    (pss_cons (ps_if (pt_val (pe_call G_is_of_one_kind (hr.mono (by decide)) (by rfl) D_is_of_one_kind.g D_is_of_one_kind.F.kp D_is_of_one_kind.b .nil pass0 (pa_cons (pv 0) pa_nil))) (pss_one (ps_ret (pe_tup (pa_cons pe_str (pa_cons (pv 2) pa_nil))))) pss_nil)
    (pss_one (RN.ps_raiseQ rfl (L2N.takes_of rfl rfl rfl rfl) (RN.pmk_oex ET_Undecided.ox ET_Undecided.iC ET_Undecided.tI GI_Undecided (hr.mono (by decide)) bE_Undecided .nil pass0 (by rfl) ET_Undecided.gC (pa_cons (pv 2) pa_nil))))))))))), ?_⟩
    walk_at "rx"
    refine ⟨v1, v2, rfl, ?_⟩
    rcases hc with ⟨a, b, es, fs, rfl, rfl, r, q⟩ | hc
    · refine .inl ⟨a, b, es, fs, rfl, rfl, r, fun H1 S1 => ?_⟩
      have r1 := r.same S1
      walk_at "rx"
      refine rd_eqI r1.ta r1.tb ?_
      by_cases e0 : es = fs
      · rw [decide_eq_true e0]
        walk_at "rx"
        exact q.q0 (if_pos e0) _ S1
      · rw [decide_eq_false e0]
        walk_at "rx"
        refine rd_ninO r1.ta rfl ?_
        rw [inV_ints]
        by_cases e1 : (-1 : Int) ∈ es
        · rw [decide_eq_true e1]
          walk_at "rx"
          refine ⟨a, es, rfl, r1.ta, r1.ia, fun H2 S2 => ?_⟩
          have r2 := r1.same S2
          walk_at "rx"
          refine ⟨b, fs, rfl, r2.tb, r2.ib, fun H3 S3 => ?_⟩
          have r3 := r2.same S3
          have S13 := (S1.trans S2).trans S3
          walk_at "rx"
          by_cases e2 : codes es = codes fs
          · rw [decide_eq_true (show V.str (txt (codes es)) = V.str (txt (codes fs)) by rw [e2])]
            walk_at "rx"
            refine rd_newQ (by simp) fun H4 p S4 nP hP => ?_
            exact q.q1 2 (by unfold vdt; rw [if_neg e0, if_neg (fun w => w e1), if_pos e2]) (by decide) (by decide) _ _ (S13.trans S4) (.inr (.inl ⟨rfl, hP⟩))
          · rw [decide_eq_false (show ¬ V.str (txt (codes es)) = V.str (txt (codes fs)) from fun w => e2 (txt_inj (V.str.inj w)))]
            walk_at "rx"
            refine ⟨a, b, es, fs, rfl, r3, fun H4 S4 => ?_⟩
            have r4 := r3.same S4
            have S14 := S13.trans S4
            walk_at "rx"
            by_cases e3 : crowd es fs
            · rw [decide_eq_true e3]
              walk_at "rx"
              refine ⟨_, _, rfl, .inl ⟨a, b, es, fs, rfl, rfl, r4, fun H5 l bs S5 hl tb _ => ?_⟩⟩
              have r5 := r4.same S5
              walk_at "rx"
              refine rd_newL fun H6 t S6 nT hT => ?_
              have r6 := r5.same S6
              have tb6 := TupsAt.same S6 tb
              have S16 := (S14.trans S5).trans S6
              walk_at "rx"
              refine ⟨a, es, rfl, r6.ta, r6.ia, fun H7 S7 => ?_⟩
              have hT7 := S7 _ _ hT
              have tb7 := TupsAt.same S7 tb6
              have S17 := S16.trans S7
              walk_at "rx"
              by_cases e4 : mono es
              · rw [decide_eq_true e4]
                walk_at "rx"
                refine rd_newQ (by simp) fun H8 p S8 nP hP => ?_
                exact q.q1 3 (by unfold vdt; rw [if_neg e0, if_neg (fun w => w e1), if_neg e2, if_neg (fun w => w e3), if_pos e4]) (by decide) (by decide) _ _ (S17.trans S8) (.inr (.inr ⟨rfl, t, bs, hP, S8 _ _ hT7, TupsAt.same S8 tb7⟩))
              · rw [decide_eq_false e4]
                walk_at "rx"
                exact mkErr fun H8 d S8 hd => q.q4 (by unfold vdt; rw [if_neg e0, if_neg (fun w => w e1), if_neg e2, if_neg (fun w => w e3), if_neg e4]) H8 d t bs (S17.trans S8) hd (S8 _ _ hT7) (TupsAt.same S8 tb7)
            · rw [decide_eq_false e3]
              walk_at "rx"
              exact q.q0 (by unfold vdt; rw [if_neg e0, if_neg (fun w => w e1), if_neg e2, if_pos e3]) _ S14
        · rw [decide_eq_false e1]
          walk_at "rx"
          refine rd_newQ (by simp) fun H4 p S4 nP hP => ?_
          exact q.q1 1 (by unfold vdt; rw [if_neg e0, if_pos e1]) (by decide) (by decide) _ _ (S1.trans S4) (.inl ⟨rfl, hP⟩)
    · exact .inr hc
def sp_check_free (K : PySem.W.Frag) : Sp := fun vs H Q E => ∃ (v1 v2 : V), vs = [v1, v2] ∧ PairS K H v1 v2 E fun _ _ es fs => CfQ K H (∀ H', Same H H' → Q .non H') E es fs
set_option maxHeartbeats 4000000 in
theorem ok_check_free (T : Top K mg) {f : Addr} {fd : FuncData} (D : Def K mg "_check_free" s_check_free ["before", "after"] f fd) : FnOk P w K mg base (L2N.CX P w) 9 f fd ["before", "after"] (sp_check_free K) := by
  obtain ⟨fE_NoPlan, fdE_NoPlan, ET_NoPlan, FE_NoPlan, bE_NoPlan⟩ := T.e_NoPlan
  have GI_NoPlan := okInit_NoPlan (P := P) (w := w) (base := base) ET_NoPlan FE_NoPlan
  obtain ⟨fobstacle, fdobstacle, Dobstacle⟩ := T.d_obstacle
  have Gobstacle : FnOk P w K mg base (L2N.CX P w) 8 fobstacle fdobstacle ["before", "after"] (spobstacle K) := okobstacle T Dobstacle
  refine RN.okX D.F sc_check_free (fun vs H Q E h => ?_) (fun cdv A outer s H vs Q E hr h => ?_)
  · obtain ⟨v1, v2, rfl, _⟩ := h
    rfl
  · obtain ⟨v1, v2, rfl, hc⟩ := h
    refine ⟨_, (pss_cons (ps_set (i := 2) sc_check_free.nd rfl (.inl rfl) (pe_callS Gobstacle hr (by rfl) Dobstacle.g Dobstacle.F.kp Dobstacle.b (fun σ => L2N.passAt (L2N.takes_of rfl rfl rfl rfl) σ) (pa_cons (pv 0) (pa_cons (pv 1) pa_nil))))
    (pss_one (ps_if (pt_cmpR op_notNQ (pv 2) pe_non (nomark _)) (pss_one (RN.ps_raiseQ rfl (L2N.takes_of rfl rfl rfl rfl) (RN.pmk_oex ET_NoPlan.ox ET_NoPlan.iC ET_NoPlan.tI GI_NoPlan (hr.mono (by decide)) bE_NoPlan .nil pass0 (by rfl) ET_NoPlan.gC (pa_cons (pv 2) pa_nil)))) pss_nil))), ?_⟩
    walk_at "rx"
    refine ⟨v1, v2, rfl, ?_⟩
    rcases hc with ⟨a, b, es, fs, rfl, rfl, r, q⟩ | hc
    · refine .inl ⟨a, b, es, fs, rfl, rfl, r, fun h0 H1 S1 => ?_, fun k hk n0 n4 H1 p S1 hr => ?_, q.q4⟩
      · walk_at "rx"
        refine rd_notNQ ?_
        rw [decide_eq_true (show V.non = V.non from rfl)]
        walk_at "rx"
        exact q.q0 h0 _ S1
      · walk_at "rx"
        refine rd_notNQ ?_
        rw [decide_eq_false (show ¬ V.ref p = V.non from fun w => by cases w)]
        walk_at "rx"
        exact mkErr fun H8 d S8 hd => q.q1 k hk n0 n4 H8 d p (S1.trans S8) hd (hr.same S8)
    · exact .inr hc
def spkept_blocks (_K : PySem.W.Frag) : Sp := fun vs H Q _ => ∃ cs : List Nat, vs = [.str (txt cs)] ∧ cs.length ≤ 12 ∧ ∀ H' D, Same H H' → H D = none → H' D = some (.lst ((baseL cs).map V.int)) → Q (.ref D) H'
set_option maxHeartbeats 4000000 in
theorem okkept_blocks (T : Top K mg) {f : Addr} {fd : FuncData} (D : Def K mg "kept_blocks" skept_blocks ["view"] f fd) : FnOk P w K mg base CX0 1 f fd ["view"] (spkept_blocks K) := by
  refine D.F.ok sckept_blocks (fun vs H Q E h => ?_) (fun cdv A outer s H vs Q E hr h => ?_)
  · obtain ⟨cs, rfl, _⟩ := h
    rfl
  · obtain ⟨cs, rfl, hl, q⟩ := h
    refine ⟨_, (pss_one (ps_ret (pe_lc (own := [("block", 1), ("seen", 2)]) (g := gTup K 2 (gCons (gName 1) (gCons (gName 2) gNil))) (tt := tYes) rfl sckept_blocks.nd (Rv.pi_enS (by rfl) T.b_enumerate (pa_cons (pv 0) pa_nil))
      (blkOk_by (own := [("block", 1), ("seen", 2)]) (N := ["view", "block", "seen"]) (sc := defScope skept_blocks) (by decide +kernel)) (fun _ _ _ _ _ => (pg_tup rfl (pgs_cons (pg_name (i := 1) sckept_blocks.nd rfl (.inl rfl)) (pgs_cons (pg_name (i := 2) sckept_blocks.nd rfl (.inl rfl)) pgs_nil)))) (fun _ _ _ _ _ => pts_nil)
      (fun _ _ _ _ _ => (pe_ifExp (pt_cmpR op_eq (pv 2) pe_str (nomark _)) (Rv.pe_k (by rfl) T.k_EMPTY) (pv 1)))))), ?_⟩
    walk_at "rd"
    refine lc_map walk_jen ((baseL cs).map V.int) ?_ ?_ (fun _ _ => trivial) ?_ ?_
    · simp [txt, base_len]
    · show (txt cs).cps.size ≤ 1000
      have : (txt cs).cps.size = cs.length := by simp [txt]
      omega
    · rintro i x H2 H3 Qc R hi S ⟨t, u, v, rfl, nT, rfl, e1, e2⟩ qc
      cases e1
      have h1 : i < cs.length := by simpa [txt] using hi
      have g2 : v = .str (one cs[i]) := by
        have z : ((txt cs).cps[i]?).map (fun c => V.str ⟨#[c]⟩) = some (.str (one cs[i])) := by simp [txt, h1, one]
        exact Option.some.inj (e2.symm.trans z)
      subst g2
      have eb : ((baseL cs).map V.int)[i]? = some (.int (if cs.getD i 0 = 46 then -1 else (i : Int))) := by
        unfold baseL
        rw [List.map_map, List.getElem?_map, List.getElem?_range h1]
        rfl
      have ec : cs.getD i 0 = cs[i] := by rw [List.getD_eq_getElem?_getD, List.getElem?_eq_getElem h1]; rfl
      rw [ec] at eb
      walk_at "rd"
      refine ⟨rfl, ?_⟩
      walk_at "rd"
      refine ite2 (fun z => ?_) (fun z => ?_)
      · have z1 : cs[i] = 46 := sgn_inj (V.str.inj (of_decide_eq_true z))
        rw [if_pos z1] at eb
        walk_at "rd"
        exact qc _ _ (same_new (Same.refl _) nT) eb
      · have z1 : cs[i] ≠ 46 := fun k => z (by rw [k]; rfl)
        rw [if_neg z1] at eb
        walk_at "rd"
        exact qc _ _ (same_new (Same.refl _) nT) eb
    · intro H2 D S nD hD
      exact q _ D S nD hD
def sp_fits (_K : PySem.W.Frag) : Sp := fun vs H Q _ => ∃ s v : Nat, vs = [.str (one s), .str (one v)] ∧ Q (.bl (fitC s v)) H
set_option maxHeartbeats 4000000 in
theorem ok_fits (T : Top K mg) {f : Addr} {fd : FuncData} (D : Def K mg "_fits" s_fits ["sign", "seen"] f fd) : FnOk P w K mg base CX0 1 f fd ["sign", "seen"] (sp_fits K) := by
  refine D.F.ok sc_fits (fun vs H Q E h => ?_) (fun cdv A outer s H vs Q E hr h => ?_)
  · obtain ⟨a, b, rfl, _⟩ := h
    rfl
  · obtain ⟨a, b, rfl, q⟩ := h
    refine ⟨_, (pss_cons (ps_if (pt_cmpR op_eq (pv 0) pe_str (nomark _)) (pss_one (ps_ret pe_bl)) pss_nil)
    (pss_cons (ps_if (pt_cmpR op_eq (pv 0) pe_str (nomark _)) (pss_one (ps_ret (pe_cmpR op_ne (pv 1) pe_str (nomark _)))) pss_nil)
    (pss_one (ps_ret (pe_cmpR op_eq (pv 0) (pv 1) (nomark _)))))), ?_⟩
    walk_at "rd"
    unfold fitC at q
    refine ite2 (fun z => ?_) (fun z => ?_)
    · have z1 : a = 45 := sgn_inj (V.str.inj (of_decide_eq_true z))
      walk_at "rd"
      rw [if_pos z1] at q
      exact q
    · have z1 : a ≠ 45 := fun k => z (by rw [k]; rfl)
      rw [if_neg z1] at q
      walk_at "rd"
      refine ite2 (fun y => ?_) (fun y => ?_)
      · have y1 : a = 42 := sgn_inj (V.str.inj (of_decide_eq_true y))
        walk_at "rd"
        rw [if_pos y1] at q
        have e : decide (V.str (one b) = V.str (Str.ofString ".")) = decide (b = 46) := decide_eq_decide.mpr ⟨fun k => sgn_inj (V.str.inj k), fun k => by rw [k]; rfl⟩
        rw [e]
        exact q
      · have y1 : a ≠ 42 := fun k => y (by rw [k]; rfl)
        walk_at "rd"
        rw [if_neg y1] at q
        have e : decide (V.str (one a) = V.str (one b)) = decide (a = b) := decide_eq_decide.mpr ⟨fun k => sgn_inj (V.str.inj k), fun k => by rw [k]⟩
        rw [e]
        exact q
def spmatches (_K : PySem.W.Frag) : Sp := fun vs H Q _ => ∃ gs cs : List Nat, vs = [.str (txt gs), .str (txt cs)] ∧ cs.length ≤ 12 ∧ ∀ H', Same H H' → Q (.bl (fitsL gs cs)) H'
set_option maxHeartbeats 4000000 in
theorem okmatches (T : Top K mg) {f : Addr} {fd : FuncData} (D : Def K mg "matches" smatches ["guard", "view"] f fd) : FnOk P w K mg base CX0 2 f fd ["guard", "view"] (spmatches K) := by
  obtain ⟨f_fits, fd_fits, D_fits⟩ := T.d__fits
  have G_fits : FnOk P w K mg base CX0 1 f_fits fd_fits ["sign", "seen"] (sp_fits K) := ok_fits T D_fits
  refine D.F.ok scmatches (fun vs H Q E h => ?_) (fun cdv A outer s H vs Q E hr h => ?_)
  · obtain ⟨gs, cs, rfl, _⟩ := h
    rfl
  · obtain ⟨gs, cs, rfl, hl, q⟩ := h
    refine ⟨_, (pss_one (ps_ret (pe_callB (r := rAll K) (cr_all rfl) (by rfl) T.b_all (by decide +kernel) (pa_cons (pe_lc (own := [("sign", 2), ("seen", 3)]) (g := gTup K 2 (gCons (gName 2) (gCons (gName 3) gNil))) (tt := tYes) rfl scmatches.nd (Rv.pi_zpS (by rfl) T.b_zip (pa_cons (pv 0) (pa_cons (pv 1) pa_nil)))
      (blkOk_by (own := [("sign", 2), ("seen", 3)]) (N := ["guard", "view", "sign", "seen"]) (sc := defScope smatches) (by decide +kernel)) (fun _ _ _ _ _ => (pg_tup rfl (pgs_cons (pg_name (i := 2) scmatches.nd rfl (.inl rfl)) (pgs_cons (pg_name (i := 3) scmatches.nd rfl (.inl rfl)) pgs_nil)))) (fun _ _ _ _ _ => pts_nil)
      (fun _ _ _ _ _ => (pe_call G_fits hr (by rfl) D_fits.g D_fits.F.kp D_fits.b .nil pass0 (pa_cons (pv 2) (pa_cons (pv 3) pa_nil))))) pa_nil)))), ?_⟩
    walk_at "rd"
    refine lc_map walk_jzp (((gs.zip cs).map fun p => fitC p.1 p.2).map V.bl) ?_ ?_ (fun _ _ => trivial) ?_ ?_
    · rw [List.length_map, List.length_map, List.length_zip]
      simp [txt]
    · show min (txt gs).cps.size (txt cs).cps.size ≤ 1000
      have : (txt cs).cps.size = cs.length := by simp [txt]
      omega
    · rintro i x H2 H3 Qc R hi S ⟨t, u, v, rfl, nT, rfl, e1, e2⟩ qc
      have hi' : i < min gs.length cs.length := by simpa [txt] using hi
      have h1 : i < gs.length := by omega
      have h2 : i < cs.length := by omega
      have g1 : u = .str (one gs[i]) := by
        have z : sgn (txt gs) i = some (.str (one gs[i])) := by simp [sgn, txt, h1, one]
        exact Option.some.inj (e1.symm.trans z)
      have g2 : v = .str (one cs[i]) := by
        have z : sgn (txt cs) i = some (.str (one cs[i])) := by simp [sgn, txt, h2, one]
        exact Option.some.inj (e2.symm.trans z)
      subst g1 g2
      walk_at "rd"
      refine ⟨rfl, ?_⟩
      walk_at "rd"
      refine ⟨_, _, rfl, qc _ _ (same_new (Same.refl _) nT) ?_⟩
      rw [List.map_map, List.getElem?_map, List.getElem?_eq_getElem (by rw [List.length_zip]; exact hi'), List.getElem_zip]
      rfl
    · intro H2 D S nD hD
      refine rd_all hD ?_
      exact q _ S
def spfires (_K : PySem.W.Frag) : Sp := fun vs H Q _ => ∃ (a : Addr) (r : Ln) (cs : List Nat), vs = [.ref a, .str (txt cs)] ∧ H a = some (.tup r.vals) ∧ cs.length ≤ 12 ∧ LnOk cs.length r ∧ ∀ H', Same H H' → Q (.bl (worksL r cs)) H'
set_option maxHeartbeats 4000000 in
theorem okfires (T : Top K mg) {f : Addr} {fd : FuncData} (D : Def K mg "fires" sfires ["line", "view"] f fd) : FnOk P w K mg base CX0 3 f fd ["line", "view"] (spfires K) := by
  obtain ⟨fmatches, fdmatches, Dmatches⟩ := T.d_matches
  have Gmatches : FnOk P w K mg base CX0 2 fmatches fdmatches ["guard", "view"] (spmatches K) := okmatches T Dmatches
  refine D.F.ok scfires (fun vs H Q E h => ?_) (fun cdv A outer s H vs Q E hr h => ?_)
  · obtain ⟨a, r, cs, rfl, _⟩ := h
    rfl
  · obtain ⟨a, r, cs, rfl, hT, hl, ok, q⟩ := h
    unfold Ln.vals at hT
    refine ⟨_, (pss_cons (ps_asg (pv 0) (pg_tup rfl (pgs_cons (pg_name (i := 2) scfires.nd rfl (.inl rfl)) (pgs_cons (pg_name (i := 3) scfires.nd rfl (.inl rfl)) (pgs_cons (pg_name (i := 4) scfires.nd rfl (.inl rfl)) (pgs_cons (pg_name (i := 5) scfires.nd rfl (.inl rfl)) pgs_nil))))))
    (pss_one (ps_ret (pe_and (pe_call Gmatches hr (by rfl) Dmatches.g Dmatches.F.kp Dmatches.b .nil pass0 (pa_cons (pv 5) (pa_cons (pv 1) pa_nil))) (pe_one (pe_or (pe_cmpR op_eq (pv 2) pe_str (nomark _)) (pe_one (pe_cmpR op_ne (pe_ix ix_str (pv 1) (pv 4) (fun _ _ => rfl)) pe_str (nomark _))))))))), ?_⟩
    walk_at "rd"
    refine ⟨r.g, cs, rfl, hl, fun H1 S1 => ?_⟩
    walk_at "rd"
    have q1 := q _ S1
    unfold worksL at q1
    refine ite2 (fun z => ?_) (fun z => ?_)
    · rw [z, Bool.true_and] at q1
      walk_at "rd"
      refine ite2 (fun y => ?_) (fun y => ?_)
      · have y1 : r.w = sClear := V.str.inj (of_decide_eq_true y)
        rw [decide_eq_true y1, Bool.true_or] at q1
        exact q1
      · have y1 : r.w ≠ sClear := fun k => y (by rw [k]; rfl)
        rw [decide_eq_false y1, Bool.false_or] at q1
        rcases ok.word with ⟨e, _⟩ | ⟨_, o0, o1, _⟩
        · exact absurd e y1
        · obtain ⟨v, e1, e2, _⟩ := atI_int o0 o1
          walk_at "rd"
          refine rd_ixS (by rw [txt_len]; exact Nat.le_of_lt (small1000 (by omega))) e1 ?_
          walk_at "rd"
          have ev : fullAt cs r.o = !decide (V.str ⟨#[v]⟩ = V.str (Str.ofString ".")) := by
            unfold fullAt
            rw [List.getD_eq_getElem?_getD, e2]
            exact congrArg not (decide_eq_decide.mpr sxx.symm)
          rw [← ev]
          exact q1
    · rw [Bool.eq_false_iff.mpr z, Bool.false_and] at q1
      exact q1
def spsources (_K : PySem.W.Frag) : Sp := fun vs H Q _ => ∃ (a : Addr) (r : Ln) (cs : List Nat), vs = [.ref a, .str (txt cs)] ∧ H a = some (.tup r.vals) ∧ cs.length ≤ 12 ∧ LnOk cs.length r ∧ ∀ H' D, Same H H' → H D = none → H' D = some (.tup ((origL r cs).map V.int)) → Q (.ref D) H'
set_option maxHeartbeats 4000000 in
theorem oksources (T : Top K mg) {f : Addr} {fd : FuncData} (D : Def K mg "sources" ssources ["line", "view"] f fd) : FnOk P w K mg base CX0 4 f fd ["line", "view"] (spsources K) := by
  obtain ⟨fkept_blocks, fdkept_blocks, Dkept_blocks⟩ := T.d_kept_blocks
  have Gkept_blocks : FnOk P w K mg base CX0 1 fkept_blocks fdkept_blocks ["view"] (spkept_blocks K) := okkept_blocks T Dkept_blocks
  obtain ⟨ffires, fdfires, Dfires⟩ := T.d_fires
  have Gfires : FnOk P w K mg base CX0 3 ffires fdfires ["line", "view"] (spfires K) := okfires T Dfires
  refine D.F.ok scsources (fun vs H Q E h => ?_) (fun cdv A outer s H vs Q E hr h => ?_)
  · obtain ⟨a, r, cs, rfl, _⟩ := h
    rfl
  · obtain ⟨a, r, cs, rfl, hT, hl, ok, q⟩ := h
    have hL : H a = some (.tup [.str r.w, .int r.t, .int r.o, .str (txt r.g)]) := hT
    refine ⟨_, (pss_cons (ps_asg (pv 0) (pg_tup rfl (pgs_cons (pg_name (i := 2) scsources.nd rfl (.inl rfl)) (pgs_cons (pg_name (i := 3) scsources.nd rfl (.inl rfl)) (pgs_cons (pg_name (i := 4) scsources.nd rfl (.inl rfl)) (pgs_cons (pg_name (i := 5) scsources.nd rfl (.inl rfl)) pgs_nil))))))
    (pss_cons (ps_set (i := 6) scsources.nd rfl (.inl rfl) (pe_call Gkept_blocks (hr.mono (by decide)) (by rfl) Dkept_blocks.g Dkept_blocks.F.kp Dkept_blocks.b .nil pass0 (pa_cons (pv 1) pa_nil)))
    (C8.pss_cut (ps_if (pt_val (pe_call Gfires hr (by rfl) Dfires.g Dfires.F.kp Dfires.b .nil pass0 (pa_cons (pv 0) (pa_cons (pv 1) pa_nil)))) (pss_cons (ps_asg (pv 4) (pg_sub (pv 6) (pv 3) set_list))
    (pss_one (ps_if (pt_cmpR op_eq (pv 2) pe_str (nomark _)) (pss_one (ps_asg (Rv.pe_k (by rfl) T.k_EMPTY) (pg_sub (pv 6) (pv 4) set_list))) pss_nil))) pss_nil)
    (pss_one (ps_ret (pe_callTy (r := rTupQ K) call_tupQ (by rfl) T.b_tuple (by decide +kernel) (pa_cons (pv 6) pa_nil))))))), ?_⟩
    walk_at "rd"
    refine ⟨cs, rfl, hl, fun H1 D1 S1 nD hD => ?_⟩
    walk_at "rd"
    refine ⟨fun σ' H' => ∃ y2 y3 y4 y5, σ' = [some (.ref a), some (.str (txt cs)), y2, y3, y4, y5, some (.ref D1)] ∧ Same H H' ∧ H' D1 = some (.lst ((origL r cs).map V.int)), ?_, ?_⟩
    · walk_at "rd"
      refine ⟨a, r, cs, rfl, S1 _ _ hT, hl, ok, fun H2 S2 => ?_⟩
      have hD2 := S2 _ _ hD
      have S12 := S1.trans S2
      walk_at "rd"
      refine ite2 (fun z => ?_) (fun z => ?_)
      · have et : ixN ((baseL cs).map V.int).length r.t = some r.t.toNat := ixN_of (by have := ok.t0; omega) (by rw [List.length_map, base_len]; have := ok.t0; have := ok.t1; omega)
        walk_at "rd"
        have eo : origL r cs = if r.w = sMove then ((baseL cs).set r.t.toNat r.o).set r.o.toNat (-1) else (baseL cs).set r.t.toNat r.o := if_pos z
        have e1 : ((baseL cs).map V.int).set r.t.toNat (.int r.o) = ((baseL cs).set r.t.toNat r.o).map V.int := (List.map_set ..).symm
        refine ite2 (fun y => ?_) (fun y => ?_)
        · have y1 : r.w = sMove := V.str.inj (of_decide_eq_true y)
          rw [if_pos y1] at eo
          have y2 : 0 ≤ r.o ∧ r.o < cs.length := by
            rcases ok.word with ⟨e, _⟩ | ⟨_, o0, o1, _⟩
            · rw [y1] at e
              exact absurd e (by decide)
            · exact ⟨o0, o1⟩
          have eq : ixN (((baseL cs).map V.int).set r.t.toNat (.int r.o)).length r.o = some r.o.toNat := ixN_of (by omega) (by rw [List.length_set, List.length_map, base_len]; omega)
          walk_at "rd"
          refine ⟨_, _, _, _, rfl, same_mut (same_mut S12 nD) nD, ?_⟩
          rw [upd_same, eo, e1]
          exact congrArg (fun z => some (HO.lst z)) (List.map_set ..).symm
        · have y1 : r.w ≠ sMove := fun k => y (by rw [k]; rfl)
          rw [if_neg y1] at eo
          walk_at "rd"
          refine ⟨_, _, _, _, rfl, same_mut S12 nD, ?_⟩
          rw [upd_same, eo, e1]
      · have eo : origL r cs = baseL cs := if_neg z
        walk_at "rd"
        refine ⟨_, _, _, _, rfl, S12, ?_⟩
        rw [eo]
        exact hD2
    · rintro σ' H' ⟨y2, y3, y4, y5, rfl, S, hD'⟩
      walk_at "rd"
      intro l nl
      exact q _ _ (same_new S nl) (by
        cases e : H l with
        | none => rfl
        | some o =>
          rw [S _ _ e] at nl
          cases nl) upd_same
def spapply_line (_K : PySem.W.Frag) : Sp := fun vs H Q _ => ∃ (a b : Addr) (r : Ln) (es : List Int), vs = [.ref a, .ref b] ∧ H a = some (.tup r.vals) ∧ TG H b es ∧ Img es ∧ LnOk es.length r ∧
  ∀ H' D, Same H H' → H D = none → H' D = some (.tup ((carL (origL r (codes es)) es).map V.int)) → Q (.ref D) H'
set_option maxHeartbeats 4000000 in
theorem okapply_line (T : Top K mg) {f : Addr} {fd : FuncData} (D : Def K mg "apply_line" sapply_line ["line", "image"] f fd) : FnOk P w K mg base CX0 5 f fd ["line", "image"] (spapply_line K) := by
  obtain ⟨fsources, fdsources, Dsources⟩ := T.d_sources
  have Gsources : FnOk P w K mg base CX0 4 fsources fdsources ["line", "view"] (spsources K) := oksources T Dsources
  obtain ⟨flook, fdlook, Dlook⟩ := T.d_look
  have Glook : FnOk P w K mg base CX0 4 flook fdlook ["image"] (splook K) := oklook T Dlook
  refine D.F.ok scapply_line (fun vs H Q E h => ?_) (fun cdv A outer s H vs Q E hr h => ?_)
  · obtain ⟨a, b, r, es, rfl, _⟩ := h
    rfl
  · obtain ⟨a, b, r, es, rfl, hT, hE, I, ok, q⟩ := h
    have ⟨I1, I2, I3⟩ := I
    have cl := codes_len es
    refine ⟨_, (pss_one (ps_ret (pe_callTy (r := rTupQ K) call_tupQ (by rfl) T.b_tuple (by decide +kernel) (pa_cons (pe_lc (own := [("block", 2)]) (g := gName 2) (tt := tYes) rfl scapply_line.nd (pi_tup (pe_call Gsources hr (by rfl) Dsources.g Dsources.F.kp Dsources.b .nil pass0 (pa_cons (pv 0) (pa_cons (pe_call Glook hr (by rfl) Dlook.g Dlook.F.kp Dlook.b .nil pass0 (pa_cons (pv 1) pa_nil)) pa_nil))))
      (blkOk_by (own := [("block", 2)]) (N := ["line", "image", "block"]) (sc := defScope sapply_line) (by decide +kernel)) (fun _ _ _ _ _ => (pg_name (i := 2) scapply_line.nd rfl (.inl rfl))) (fun _ _ _ _ _ => pts_nil)
      (fun _ _ _ _ _ => (pe_ifExp (pt_cmpR op_eq (pv 2) (Rv.pe_k (by rfl) T.k_EMPTY) (nomark _)) (Rv.pe_k (by rfl) T.k_EMPTY) (pe_ix (r := rIxT K) ix_tup (pv 1) (pv 2) (fun _ _ => rfl))))) pa_nil)))), ?_⟩
    walk_at "rx"
    refine ⟨b, es, rfl, hE, I, fun H1 S1 => ?_⟩
    walk_at "rx"
    refine ⟨a, r, codes es, rfl, S1 _ _ hT, by omega, by rw [cl]; exact ok, fun H2 D2 S2 nD2 hD2 => ?_⟩
    walk_at "rx"
    have hl2 : (origL r (codes es)).length = es.length := (orig_len _ _).trans cl
    refine lc_map (walk_tup (xs := (origL r (codes es)).map V.int)) ((carL (origL r (codes es)) es).map V.int) ?_ ?_ (fun H' S => SqT.of (S _ _ hD2)) ?_ ?_
    · simp [carL]
    · rw [List.length_map, hl2]
      omega
    · rintro i x H3 H4 Qc R hi S ⟨rfl, ex⟩ qc
      have hi2 : i < (origL r (codes es)).length := by rw [List.length_map] at hi; exact hi
      have eg := car_get (es := es) hi2
      rw [List.getElem?_map, List.getElem?_eq_getElem hi2] at ex
      cases ex
      have hk := orig_held (vs := codes es) (r := r) (by rw [cl]; exact ok) _ (List.getElem_mem hi2)
      rw [cl] at hk
      have hE2 : TG H4 b es := ((hE.same S1).same S2).same S
      generalize (origL r (codes es))[i] = k at *
      walk_at "rx"
      refine ⟨rfl, ?_⟩
      walk_at "rx"
      refine ite2 (fun z => ?_) (fun z => ?_)
      · have z1 : k = -1 := V.int.inj (of_decide_eq_true z)
        walk_at "rx"
        rw [if_pos z1] at eg
        exact qc _ _ (Same.refl _) eg
      · have z1 : k ≠ -1 := fun e => z (by rw [e]; rfl)
        have hk2 : 0 ≤ k ∧ k < es.length := by omega
        have ea := atI_ints hk2.1 hk2.2
        walk_at "rx"
        rw [if_neg z1] at eg
        exact qc _ _ (Same.refl _) eg
    · intro H3 D S nD hD
      walk_at "rx"
      intro l nl
      have S3 := (S1.trans S2).trans S
      exact q _ _ (same_new S3 nl) (S3.free nl) upd_same
def sp_staircase (_K : PySem.W.Frag) : Sp := fun vs H Q _ => ∃ (a m : Addr) (es fs : List Int) (ms : List (Nat × Nat)) (qs : List Addr), vs = [.ref a, .ref m] ∧ TG H a es ∧ Img es ∧ H m = some (.lst (qs.map V.ref)) ∧ Prs H qs ms ∧ ms.length ≤ 100 ∧ (∃ V', climb es [codes es] ms fs V') ∧ ∀ H' l ps, Same H H' → H' l = some (.lst (ps.map V.ref)) → TupsAt H' ps (rows (stairL es ms)) → Q (.ref l) H'
set_option maxHeartbeats 4000000 in
theorem ok_staircase (T : Top K mg) {f : Addr} {fd : FuncData} (D : Def K mg "_staircase" s_staircase ["image", "moves"] f fd) : FnOk P w K mg base CX0 6 f fd ["image", "moves"] (sp_staircase K) := by
  obtain ⟨fapply_line, fdapply_line, Dapply_line⟩ := T.d_apply_line
  have Gapply_line : FnOk P w K mg base CX0 5 fapply_line fdapply_line ["line", "image"] (spapply_line K) := okapply_line T Dapply_line
  obtain ⟨flook, fdlook, Dlook⟩ := T.d_look
  have Glook : FnOk P w K mg base CX0 4 flook fdlook ["image"] (splook K) := oklook T Dlook
  refine D.F.ok sc_staircase (fun vs H Q E h => ?_) (fun cdv A outer s H vs Q E hr h => ?_)
  · obtain ⟨a, m, es, fs, ms, qs, rfl, _⟩ := h
    rfl
  · obtain ⟨a, m, es, fs, ms, qs, rfl, ha, I, hm, tq, lm, ⟨V', c⟩, q⟩ := h
    have lq : qs.length = ms.length := by
      have := tq.1
      rw [List.length_map] at this
      exact this
    have sl := stair_len ms es
    refine ⟨_, (pss_cons (ps_set (i := 2) sc_staircase.nd rfl (.inl rfl) (pe_lst pa_nil))
    (pss_cons (ps_for PassesOwn.never rfl (pi_list (pv 1)) (pg_tup rfl (pgs_cons (pg_name (i := 3) sc_staircase.nd rfl (.inl rfl)) (pgs_cons (pg_name (i := 4) sc_staircase.nd rfl (.inl rfl)) pgs_nil))) (pss_cons (ps_set (i := 5) sc_staircase.nd rfl (.inl rfl) (pe_tup (pa_cons pe_str (pa_cons (pv 3) (pa_cons (pv 4) (pa_cons (pe_call Glook (hr.mono (by decide)) (by rfl) Dlook.g Dlook.F.kp Dlook.b .nil pass0 (pa_cons (pv 0) pa_nil)) pa_nil))))))
    (pss_cons (ps_expr (pe_bm PySem.F.plainAttrs_list PySem.F.slot_list_append PySem.F.type_list_append mt_append (pv 2) (pa_cons (pv 5) pa_nil)))
    (pss_one (ps_set (i := 0) sc_staircase.nd rfl (.inl rfl) (pe_call Gapply_line hr (by rfl) Dapply_line.g Dapply_line.F.kp Dapply_line.b .nil pass0 (pa_cons (pv 5) (pa_cons (pv 0) pa_nil))))))))
    (pss_one (ps_ret (pv 2))))), ?_⟩
    walk_at "rx"
    refine rd_newQ (by decide) fun H1 D S1 nD hD => ?_
    have hm1 := S1 _ _ hm
    walk_at "rx"
    refine fr_it (walk_list (xs := qs.map V.ref)) (fun i σ H' => ∃ (g : List Int) (Vw : List (List Nat)) (x : Addr) (ps : List Addr) (y3 y4 y5 : Option V), σ = [some (.ref x), some (.ref m), some (.ref D), y3, y4, y5] ∧ Same H H' ∧ TG H' x g ∧ H' D = some (.lst (ps.map V.ref)) ∧ TupsAt H' ps (rows ((stairL es ms).take i)) ∧ Hlf es fs ms i g Vw) ⟨es, [codes es], a, [], none, none, none, rfl, S1, ha.same S1, hD, TupsAt.nil, Hlf.start c I.2.2⟩ (fun i σ H' _ pp => ?_) ?_ ?_
    · obtain ⟨_, _, _, _, _, _, _, _, S, _⟩ := pp
      exact SqL.of (S _ _ hm)
    · rintro i y σ H4 H5 hi ⟨g, Vw, x, ps, y3, y4, y5, rfl, S4, hx, hD4, tp, hf⟩ ⟨rfl, ex⟩
      rw [List.length_map, lq] at hi
      obtain ⟨tt, ss, e1, l1, l2, g1, g2, nv, nxt⟩ := hf.step hi
      obtain ⟨⟨t0, s0⟩, em, et, es0⟩ := stair_ms ms es i _ e1
      have et : (tt : Int) = (t0 : Int) := et
      have es0 : (ss : Int) = (s0 : Int) := es0
      obtain ⟨p0, e2, hp0⟩ := (TupsAt.same S4 tq).2 i _ (by rw [List.getElem?_map, em]; rfl)
      have hp : H5 p0 = some (.tup [.int (tt : Int), .int (ss : Int)]) := by rw [et, es0]; exact hp0
      rw [List.getElem?_map, e2] at ex
      cases ex
      have Ig := hf.img I
      have lps : ps.length = i := by
        have := tp.1
        unfold rows at this
        rw [List.length_map, List.length_take, sl] at this
        omega
      walk_at "rx"
      refine ⟨x, g, rfl, hx, Ig, fun H6 S6 => ?_⟩
      have hD6 := S6 _ _ hD4
      have hx6 := hx.same S6
      have tp6 := TupsAt.same S6 tp
      walk_at "rx"
      refine rd_newQ (by simp) fun H7 p S7 nP hP => ?_
      have hD7 := S7 _ _ hD6
      have hx7 := hx6.same S7
      have tp7 := TupsAt.same S7 tp6
      have lb : (ps.map V.ref).length < 1000 := by rw [List.length_map]; omega
      walk_at "rx"
      have npD : p ≠ D := fun e => by rw [e, hD7] at hP; cases hP
      have hP8 : upd H7 D (.lst (ps.map V.ref ++ [V.ref p])) p = some (.tup (Ln.vals ⟨sMove, (tt : Int), (ss : Int), codes g⟩)) := (upd_ne npD).trans hP
      refine ⟨p, x, ⟨sMove, (tt : Int), (ss : Int), codes g⟩, g, rfl, hP8, hx7.mut hD7, Ig, move_ok Ig l1 l2 g1 g2, fun H9 X9 S9 nX hX => ?_⟩
      rw [car_mv Ig.2.2 l1 l2 g2] at hX
      have hD9 := S9 _ _ (show upd H7 D (.lst (ps.map V.ref ++ [V.ref p])) D = some (.lst (ps.map V.ref ++ [V.ref p])) from upd_same)
      have S8 := same_mut ((S4.trans S6).trans S7) nD (o := .lst (ps.map V.ref ++ [V.ref p]))
      walk_at "rx"
      refine ⟨mv g tt ss, Vw ++ [codes (mv g tt ss)], X9, ps ++ [p], _, _, _, rfl, S8.trans S9, .of hX, by rw [hD9, List.map_append]; rfl, ?_, nxt⟩
      have nx : (stairL es ms).take (i + 1) = (stairL es ms).take i ++ [⟨sMove, (tt : Int), (ss : Int), codes g⟩] := by
        obtain ⟨hl, e⟩ := List.getElem?_eq_some_iff.mp e1
        rw [take_next hl, e]
      rw [nx]
      unfold rows
      rw [List.map_append]
      exact (TupsAt.same S9 (TupsAt.mut hD7 tp7)).app (S9 _ _ hP8)
    · rintro σ H4 ⟨g, Vw, x, ps, y3, y4, y5, rfl, S4, hx, hD4, tp, hf⟩
      rw [List.length_map, lq] at tp
      walk_at "rx"
      refine q _ _ ps S4 hD4 ?_
      rw [List.take_of_length_le (by rw [sl]; exact Nat.le_refl _)] at tp
      exact tp
def spchains (K : PySem.W.Frag) : Sp := fun vs H Q E => ∃ (v1 v2 : V), vs = [v1, v2] ∧ PairS K H v1 v2 E fun _ _ es fs => ∀ H' l bs, Same H H' → H' l = some (.lst (bs.map V.ref)) → NRows H' bs ((starts es fs es.length).map (Fo es fs)) → Q (.ref l) H'
set_option maxHeartbeats 4000000 in
theorem okchains (T : Top K mg) {f : Addr} {fd : FuncData} (D : Def K mg "chains" schains ["before", "after"] f fd) : FnOk P w K mg base (L2N.CX P w) 6 f fd ["before", "after"] (spchains K) := by
  obtain ⟨f_leads, fd_leads, D_leads⟩ := T.d__leads
  have G_leads : FnOk P w K mg base (L2N.CX P w) 5 f_leads fd_leads ["before", "after"] (sp_leads K) := ok_leads T D_leads
  obtain ⟨ffollowed, fdfollowed, Dfollowed⟩ := T.d_followed
  have Gfollowed : FnOk P w K mg base CX0 1 ffollowed fdfollowed ["leads", "block"] (spfollowed K) := okfollowed T Dfollowed
  refine RN.okX D.F scchains (fun vs H Q E h => ?_) (fun cdv A outer s H vs Q E hr h => ?_)
  · obtain ⟨v1, v2, rfl, _⟩ := h
    rfl
  · obtain ⟨v1, v2, rfl, hc⟩ := h
    refine ⟨_, (pss_cons (ps_set (i := 2) scchains.nd rfl (.inr rfl) (pe_callS G_leads hr (by rfl) D_leads.g D_leads.F.kp D_leads.b (fun σ => L2N.passAt (L2N.takes_of rfl rfl rfl rfl) σ) (pa_cons (pv 0) (pa_cons (pv 1) pa_nil))))
    (pss_cons (ps_setLc (i := 3) (own := [("block", 4), ("entry", 5)]) (g := gTup K 2 (gCons (gName 4) (gCons (gName 5) gNil))) (tt := _) rfl scchains.nd rfl rfl (sw_true rfl rfl rfl (by decide +kernel)) (pi_enO (by rfl) T.b_enumerate (pa_cons (pv 0) pa_nil))
      (blkOk_by (own := [("block", 4), ("entry", 5)]) (N := ["before", "after", "leads", "starts", "block", "entry"]) (sc := defScope schains) (by decide +kernel)) (fun _ _ _ _ _ => (pg_tup rfl (pgs_cons (pg_name (i := 4) scchains.nd rfl (.inl rfl)) (pgs_cons (pg_name (i := 5) scchains.nd rfl (.inl rfl)) pgs_nil)))) (fun _ _ _ _ _ => pts_one (PW.pt (pw_and (pt_cmpR op_eq (pv 5) (Rv.pe_k (by rfl) T.k_EMPTY) (nomark _)) (pw_and1 (pt_cmpR op_ne (pe_ix (r := rIxT K) ix_tup (pv 1) (pv 4) (fun _ _ => rfl)) (Rv.pe_k (by rfl) T.k_EMPTY) (nomark _))))))
      (fun _ _ _ _ _ => (pv 4)))
    (pss_one (ps_ret (pe_lc (own := [("block", 4)]) (g := gName 4) (tt := tYes) rfl scchains.nd (pi_list (pv 3))
      (blkOk_by (own := [("block", 4)]) (N := ["before", "after", "leads", "starts", "block", "entry"]) (sc := defScope schains) (by decide +kernel)) (fun _ _ _ _ _ => (pg_name (i := 4) scchains.nd rfl (.inl rfl))) (fun _ _ _ _ _ => pts_nil)
      (fun _ _ _ _ _ => (pe_call Gfollowed (hr.mono (by decide)) (by rfl) Dfollowed.g Dfollowed.F.kp Dfollowed.b .nil pass0 (pa_cons (pv 2) (pa_cons (pv 4) pa_nil))))))))), ?_⟩
    walk_at "rx"
    refine ⟨v1, v2, rfl, ?_⟩
    rcases hc with ⟨a, b, es, fs, rfl, rfl, r, q⟩ | hc
    · refine .inl ⟨a, b, es, fs, rfl, rfl, r, fun H1 ld S1 hld => ?_⟩
      have R := r.rn
      have e12 := r.ia.2.1
      have lf := R.len
      have r1 := r.same S1
      have ha1 := r1.ta
      walk_at "rx"
      refine rd_EnO ha1 fun Gd hG0 => ?_
      refine lc_acc walk_jen (fun i acc => acc = nvs (starts es fs i)) rfl (fun i acc hi e => by
        rw [e, nvs_len]
        have := List.length_filter_le (fun b => decide (Ch es fs b)) (List.range i)
        unfold starts
        rw [List.length_range] at this
        rw [List.length_map] at hi
        omega) (fun H' S => hG0 _ S) ?_ ?_
      · rintro i x Hx Hy acc Qc R2 hi Sx e ⟨t, u, w, rfl, nT, rfl, e1, e2⟩ qc rc
        cases e1
        have hi2 : i < es.length := by rw [List.length_map] at hi; exact hi
        have e3 : (es.map V.int)[i]? = some w := e2
        rw [List.getElem?_map, get_at hi2] at e3
        cases e3
        have S4 := same_new (o := .tup [.int (i : Nat), V.int (es.getD i 0)]) (Same.refl Hx) nT
        have hbx := (r1.tb.same Sx).same S4
        have bi : atI (fs.map V.int) (i : Int) = some (.int (fs.getD i 0)) := atI_ints (by omega) (by omega)
        have nx : starts es fs (i + 1) = starts es fs i ++ if Ch es fs i then [i] else [] := by
          unfold starts
          rw [List.range_succ, List.filter_append]
          congr 1
          by_cases z : Ch es fs i
          · rw [if_pos z, List.filter_cons_of_pos (by rw [decide_eq_true z])]; rfl
          · rw [if_neg z, List.filter_cons_of_neg (by rw [decide_eq_false z]; decide)]; rfl
        have no : ¬ Ch es fs i → nvs (starts es fs (i + 1)) = nvs (starts es fs i) := fun n => by rw [nx, if_neg n, List.append_nil]
        walk_at "rx"
        refine ⟨rfl, ?_⟩
        walk_at "rx"
        by_cases z : es.getD i 0 = -1
        · rw [decide_eq_true (show V.int (es.getD i 0) = V.int (-1) from by rw [z])]
          walk_at "rx"
          by_cases y : fs.getD i 0 = -1
          · rw [decide_eq_true (show V.int (fs.getD i 0) = V.int (-1) from by rw [y])]
            walk_at "rx"
            exact rc _ S4 (e.trans (no fun c => c.2 y).symm)
          · rw [decide_eq_false (show ¬ V.int (fs.getD i 0) = V.int (-1) from fun w => y (V.int.inj w))]
            walk_at "rx"
            refine qc _ _ S4 ?_
            rw [nx, if_pos ⟨z, y⟩, nvs_app, e]
            rfl
        · rw [decide_eq_false (show ¬ V.int (es.getD i 0) = V.int (-1) from fun w => z (V.int.inj w))]
          walk_at "rx"
          exact rc _ S4 (e.trans (no fun c => z c.1).symm)
      · rintro H2 D acc S2 nD hD e
        rw [e, List.length_map] at hD
        have hld2 := S2 _ _ hld
        have ls : (starts es fs es.length).length ≤ es.length := by
          have := List.length_filter_le (fun b => decide (Ch es fs b)) (List.range es.length)
          rw [List.length_range] at this
          exact this
        walk_at "rx"
        refine lc_acc2 (walk_list (xs := nvs (starts es fs es.length))) (fun i acc H' => ∃ bs, acc = bs.map V.ref ∧ NRows H' bs (((starts es fs es.length).take i).map (Fo es fs))) ⟨[], rfl, TupsAt.nil⟩ (fun i acc Ha Hb k pp => by obtain ⟨bs, e1, e2⟩ := pp; exact ⟨bs, e1, e2.kt k⟩) (fun i acc H' hi pp => by
          obtain ⟨cs, rfl, e2⟩ := pp
          have := NRows.len e2
          rw [List.length_map, List.length_take] at this
          rw [List.length_map]
          omega) (fun H' S => SqL.of (S _ _ hD)) ?_ ?_
        · rintro i x Hx Hy acc Qc R2 hi Sx ⟨bs, rfl, tb⟩ ⟨rfl, ex⟩ qc rc
          rw [nvs_len] at hi
          have ei : (starts es fs es.length)[i]? = some (starts es fs es.length)[i] := List.getElem?_eq_getElem hi
          rw [nvs_get ei] at ex
          cases ex
          have hb2 := (mem_starts.mp (List.getElem_mem hi)).1
          have hldx := Sx _ _ hld2
          walk_at "rx"
          refine ⟨rfl, ?_⟩
          walk_at "rx"
          refine ⟨ld, es, fs, _, rfl, hldx, R, e12, hb2, fun H4 p S4 hp => ?_⟩
          refine qc _ _ S4 ⟨bs ++ [p], by rw [List.map_append]; rfl, ?_⟩
          rw [take_next hi, List.map_append]
          exact NRows.snoc (TupsAt.same S4 tb) hp
        · rintro H3 D3 acc S3 nD3 hD3 ⟨bs, rfl, tb⟩
          rw [nvs_len, List.take_length] at tb
          walk_at "rx"
          exact q H3 D3 bs ((S1.trans S2).trans S3) hD3 tb
    · exact .inr hc
def sp_along (_K : PySem.W.Frag) : Sp := fun vs H Q _ => ∃ (w : Addr) (p : List Nat), vs = [.ref w] ∧ (H w = some (.tup (nvs p)) ∨ H w = some (.lst (nvs p))) ∧ p ≠ [] ∧ p.length ≤ 40 ∧ ∀ H' l qs, Same H H' → H' l = some (.lst (qs.map V.ref)) → Prs H' qs (along p) → Q (.ref l) H'
set_option maxHeartbeats 4000000 in
theorem ok_along (T : Top K mg) {f : Addr} {fd : FuncData} (D : Def K mg "_along" s_along ["way"] f fd) : FnOk P w K mg base CX0 1 f fd ["way"] (sp_along K) := by
  refine D.F.ok sc_along (fun vs H Q E h => ?_) (fun cdv A outer s H vs Q E hr h => ?_)
  · obtain ⟨w, p, rfl, _⟩ := h
    rfl
  · obtain ⟨w, p, rfl, hw, ne, lp, q⟩ := h
    have ec := nvs_cut1 ne
    have l1 : 0 < p.length := List.length_pos_iff.mpr ne
    refine ⟨_, (pss_one (ps_ret (pe_or (pe_lz rfl (by rfl) T.b_list (by rfl) T.b_zip (pa_cons (pv 0) (pa_cons (pe_slice sl_tup (pv 0) (po_some pe_int) po_none) pa_nil))) (pe_lzL rfl (by rfl) T.b_list (by rfl) T.b_zip (pa_cons (pv 0) (pa_cons (pe_slice sl_list (pv 0) (po_some pe_int) po_none) pa_nil)))))), ?_⟩
    walk_at "rx"
    rcases hw with hw | hw
    · refine .inl ?_
      refine rd_lz ?_
      walk_at "rx"
      refine rd_slT hw ?_ ?_
      · intro z
        have z1 := HT.sIx_nat (nvs p).length 0 1
        have z2 := z.1
        have z3 : HT.sIx (nvs p).length 0 (some ((1 : Nat) : Int)) = 0 := z2
        have z4 := nvs_len p
        omega
      · rw [ec]
        refine rd_newL fun H2 p2 S2 n2 h2 => ?_
        walk_at "rx"
        exact ⟨w, p2, _, _, rfl, S2 _ _ hw, h2, by rw [nvs_len]; omega, fun q3 H3 acc n3 h3 S3 z l => q H3 q3 acc (S2.trans S3) h3 (zp_along z l)⟩
    · refine .inr ?_
      refine rd_lzL ?_
      walk_at "rx"
      rw [ec]
      refine rd_newL fun H2 p2 S2 n2 h2 => ?_
      walk_at "rx"
      exact ⟨w, p2, _, _, rfl, S2 _ _ hw, h2, by rw [nvs_len]; omega, fun q3 H3 acc n3 h3 S3 z l => q H3 q3 acc (S2.trans S3) h3 (zp_along z l)⟩
def sp_recolored (_K : PySem.W.Frag) : Sp := fun vs H Q _ => ∃ (a b : Addr) (es fs : List Int), vs = [.ref a, .ref b] ∧ RP H a b es fs ∧ chns es fs = [] ∧ codes es ≠ codes fs ∧ ∀ H' p r0, Same H H' → H' p = some (.tup (nvs r0)) → r0 ∈ rngs es fs → (∃ b ∈ r0, (codes es).getD b 0 ≠ (codes fs).getD b 0) → Q (.ref p) H'
set_option maxHeartbeats 4000000 in
theorem ok_recolored (T : Top K mg) {f : Addr} {fd : FuncData} (D : Def K mg "_recolored" s_recolored ["before", "after"] f fd) : FnOk P w K mg base (L2N.CX P w) 7 f fd ["before", "after"] (sp_recolored K) := by
  obtain ⟨flook, fdlook, Dlook⟩ := T.d_look
  have Glook : FnOk P w K mg base CX0 4 flook fdlook ["image"] (splook K) := oklook T Dlook
  obtain ⟨frings, fdrings, Drings⟩ := T.d_rings
  have Grings : FnOk P w K mg base (L2N.CX P w) 6 frings fdrings ["before", "after"] (springs K) := okrings T Drings
  refine RN.okX D.F sc_recolored (fun vs H Q E h => ?_) (fun cdv A outer s H vs Q E hr h => ?_)
  · obtain ⟨a, b, es, fs, rfl, _⟩ := h
    rfl
  · obtain ⟨a, b, es, fs, rfl, r, hc, ne, q⟩ := h
    have cl := codes_len es
    have cl2 := codes_len fs
    have e12 := r.ia.2.1
    have lf := r.rn.len
    have lfo : ∀ x ∈ rngs es fs, x.length ≤ es.length := fun x hx => rngs_len r.rn hx
    refine ⟨_, (pss_cons (ps_set (i := 2) sc_recolored.nd rfl (.inr rfl) (pe_lc (own := [("block", 3), ("sign", 4)]) (g := gTup K 2 (gCons (gName 3) (gCons (gName 4) gNil))) (tt := _) rfl sc_recolored.nd (Rv.pi_enS (by rfl) T.b_enumerate (pa_cons (pe_call Glook (hr.mono (by decide)) (by rfl) Dlook.g Dlook.F.kp Dlook.b .nil pass0 (pa_cons (pv 0) pa_nil)) pa_nil))
      (blkOk_by (own := [("block", 3), ("sign", 4)]) (N := ["before", "after", "changed", "block", "sign", "ring"]) (sc := defScope s_recolored) (by decide +kernel)) (fun _ _ _ _ _ => (pg_tup rfl (pgs_cons (pg_name (i := 3) sc_recolored.nd rfl (.inl rfl)) (pgs_cons (pg_name (i := 4) sc_recolored.nd rfl (.inl rfl)) pgs_nil)))) (fun _ _ _ _ _ => pts_one (pt_cmpR op_ne (pv 4) (pe_ix ix_str (pe_call Glook (hr.mono (by decide)) (by rfl) Dlook.g Dlook.F.kp Dlook.b .nil pass0 (pa_cons (pv 1) pa_nil)) (pv 3) (fun _ _ => rfl)) (nomark _)))
      (fun _ _ _ _ _ => (pv 3))))
    (pss_one (ps_ret (pe_callB (r := rMinR K) (cr_minR rfl (by exact hr.units)) (by rfl) T.b_min (by decide +kernel) (pa_cons (pe_lc (own := [("ring", 5)]) (g := gName 5) (tt := _) rfl sc_recolored.nd (pi_list (pe_callS Grings hr (by rfl) Drings.g Drings.F.kp Drings.b (fun σ => L2N.passAt (L2N.takes_of rfl rfl rfl rfl) σ) (pa_cons (pv 0) (pa_cons (pv 1) pa_nil))))
      (blkOk_by (own := [("ring", 5)]) (N := ["before", "after", "changed", "block", "sign", "ring"]) (sc := defScope s_recolored) (by decide +kernel)) (fun _ _ _ _ _ => (pg_name (i := 5) sc_recolored.nd rfl (.inl rfl))) (fun _ _ _ _ _ => pts_one (pt_val (pe_callB (r := rAny K) (cr_any rfl) (by rfl) T.b_any (by decide +kernel) (pa_cons (pe_lc (wi := iTup K (tVar 5)) (own := [("block", 3)]) (g := gName 3) (tt := tYes) rfl sc_recolored.nd (pi_tup (pv 5))
      (blkOk_by (own := [("block", 3)]) (by rfl)) (fun _ _ _ _ _ => (pg_name (i := 3) sc_recolored.nd rfl (.inl rfl))) (fun _ _ _ _ _ => pts_nil)
      (fun _ _ _ _ _ => (pe_cmpR (r := rIn K false) op_in_seq (pv 3) (pv 2) (by rfl)))) pa_nil))))
      (fun _ _ _ _ _ => (pv 5))) pa_nil))))), ?_⟩
    walk_at "rx"
    refine ⟨a, es, rfl, r.ta, r.ia, fun H1 S1 => ?_⟩
    have r1 := r.same S1
    walk_at "rx"
    refine lc_acc walk_jen (fun i acc => acc = nvs (cdf es fs i)) rfl (fun i acc hi e => by
      have := cdf_len es fs i
      have h2 : (txt (codes es)).cps.size = (codes es).length := by simp [txt]
      rw [e, nvs_len]
      omega) (fun _ _ => trivial) ?_ ?_
    · rintro i x H2 H3 acc Qc R hi S e ⟨t, u, v, rfl, nT, rfl, e1, e2⟩ qc rc
      cases e1
      have h1 : i < (codes es).length := by simpa [txt] using hi
      have g2 : v = .str (one (codes es)[i]) := by
        have z : ((txt (codes es)).cps[i]?).map (fun c => V.str ⟨#[c]⟩) = some (.str (one (codes es)[i])) := by simp [txt, h1, one]
        exact Option.some.inj (e2.symm.trans z)
      subst g2
      have sN : Same H2 (upd H2 t (.tup [V.int (i : Int), V.str (one (codes es)[i])])) := same_new (Same.refl _) nT
      have r2 := r1.same (S.trans sN)
      have nx := cdf_next es fs i
      have ec : (codes es).getD i 0 = (codes es)[i] := RV.getD_getN h1
      walk_at "rx"
      refine ⟨rfl, ?_⟩
      walk_at "rx"
      refine ⟨b, fs, rfl, r2.tb, r2.ib, fun H4 S4 => ?_⟩
      have ix : (codes fs)[i]? = some ((codes fs).getD i 0) := by rw [List.getD_eq_getElem?_getD, List.getElem?_eq_getElem (by omega)]; rfl
      have lt2 : (txt (codes fs)).length ≤ sizeLine := Nat.le_of_lt (small1000 (by show (txt (codes fs)).cps.size ≤ 1000; simp [txt]; omega))
      have ix2 : atI (txt (codes fs)).cps.toList (i : Int) = some ((codes fs).getD i 0) := atI_nat (by simpa [txt] using ix)
      walk_at "rx"
      have S24 : Same H2 H4 := sN.trans S4
      by_cases z : (codes es)[i] = (codes fs).getD i 0
      · rw [decide_eq_true (show V.str (one (codes es)[i]) = V.str ⟨#[(codes fs).getD i 0]⟩ by rw [z]; rfl)]
        walk_at "rx"
        exact rc _ S24 (by rw [nx, if_pos (ec.trans z), List.append_nil]; exact e)
      · rw [decide_eq_false (show ¬ V.str (one (codes es)[i]) = V.str ⟨#[(codes fs).getD i 0]⟩ from fun w => z (sgn_inj (V.str.inj w)))]
        walk_at "rx"
        exact qc _ _ S24 (by rw [nx, if_neg (fun k => z (ec.symm.trans k)), nvs_app, e]; rfl)
    intro H2 D acc S2 nD hD e
    have sz : (txt (codes es)).cps.size = es.length := by simp [txt, cl]
    rw [e, sz] at hD
    have r2 := r1.same S2
    walk_at "rx"
    refine ⟨_, _, rfl, .inl ⟨a, b, es, fs, rfl, rfl, r2, fun H3 l bs S3 hl tb _ => ?_⟩⟩
    have hD3 := S3 _ _ hD
    have lb := NRows.len tb
    have ls2 : (rngs es fs).length ≤ es.length := by
      have := List.length_filter_le (fun b => decide (IsR (G es fs) (Fo es fs b))) (List.range es.length)
      rw [List.length_range] at this
      unfold rngs tops
      rw [List.length_map]
      exact this
    walk_at "rx"
    refine flt_acc (fun x => ∃ b ∈ x, (codes es).getD b 0 ≠ (codes fs).getD b 0) hl tb (by show (rngs es fs).length ≤ 256; omega) ?_ ?_
    · rintro c x Hx Qc R hx Sx hc2 yes no
      have hx : x ∈ rngs es fs := hx
      have hDx := Sx _ _ hD3
      have lx := lfo x hx
      have xl : ∀ y ∈ x, y < es.length := fun y hy => by
        unfold rngs at hx
        obtain ⟨t, ht, rfl⟩ := List.mem_map.mp hx
        exact (fo_p r.rn (mem_tops.mp ht).1).1.lt y hy
      walk_at "rx"
      refine ⟨rfl, ?_⟩
      walk_at "rx"
      refine lc_map (walk_tup (xs := nvs x)) ((x.map fun y => decide (y ∈ cdf es fs es.length)).map V.bl) ?_ ?_ (fun H' S => SqT.of (S _ _ hc2)) ?_ ?_
      · rw [List.length_map, List.length_map, nvs_len]
      · rw [nvs_len]; omega
      · rintro i y H4 H5 Qd Re hi S ⟨rfl, ey⟩ qd
        rw [nvs_len] at hi
        have e3 : x[i]? = some x[i] := List.getElem?_eq_getElem hi
        rw [nvs_get e3] at ey
        cases ey
        have hD4 := S _ _ hDx
        walk_at "rx"
        refine ⟨rfl, ?_⟩
        walk_at "rx"
        refine rd_inLf hD4 rfl (nvs_flat _) ?_
        rw [nvs_in]
        exact qd _ _ (Same.refl _) (by rw [List.getElem?_map, List.getElem?_map, e3]; rfl)
      intro H4 D4 S4 nD4 hD4
      walk_at "rx"
      refine ⟨_, _, rfl, SqL.of hD4, ?_⟩
      have ev : ((x.map fun y => decide (y ∈ cdf es fs es.length)).any id) = decide (∃ b ∈ x, (codes es).getD b 0 ≠ (codes fs).getD b 0) := by
        rw [Bool.eq_iff_iff, List.any_eq_true, decide_eq_true_eq]
        constructor
        · rintro ⟨k, hk, e5⟩
          obtain ⟨y, hy, rfl⟩ := List.mem_map.mp hk
          exact ⟨y, hy, (mem_cdf.mp (of_decide_eq_true e5)).2⟩
        · rintro ⟨y, hy, n⟩
          exact ⟨_, List.mem_map.mpr ⟨y, hy, rfl⟩, decide_eq_true (mem_cdf.mpr ⟨xl y hy, n⟩)⟩
      rw [ev]
      by_cases z : ∃ b ∈ x, (codes es).getD b 0 ≠ (codes fs).getD b 0
      · rw [decide_eq_true z]
        walk_at "rx"
        exact yes z _ S4
      · rw [decide_eq_false z]
        walk_at "rx"
        exact no z _ S4
    intro H4 D4 cs S4 nD4 hD4 t4
    obtain ⟨r0, m0, d0⟩ := recolored r.rn r.ia.2.2 hc ne
    walk_at "rx"
    refine rd_minR hD4 t4 (List.ne_nil_of_mem (mem_flt.mpr ⟨m0, d0⟩)) fun c x hx hcx => ?_
    obtain ⟨h1, h2⟩ := mem_flt.mp hx
    exact q _ c x (((S1.trans S2).trans S3).trans S4) hcx h1 h2
def sp_around (_K : PySem.W.Frag) : Sp := fun vs H Q _ => ∃ (t m : Addr) (sp : Nat) (bs qs : List Addr) (rs : List (List Nat)) (ms : List (Nat × Nat)), vs = [.ref t, .int (sp : Int), .ref m] ∧ H t = some (.lst (bs.map V.ref)) ∧ NRows H bs rs ∧ (∀ r ∈ rs, r ≠ []) ∧ rs.flatten.length ≤ 12 ∧ rs.length ≤ 12 ∧ H m = some (.lst (qs.map V.ref)) ∧ Prs H qs ms ∧ ms.length ≤ 40 ∧ ∀ H' l ns, Same H H' → H' l = some (.lst (ns.map V.ref)) → Prs H' ns (around_moves rs sp ms) → Q (.ref l) H'
set_option maxHeartbeats 4000000 in
theorem ok_around (T : Top K mg) {f : Addr} {fd : FuncData} (D : Def K mg "_around" s_around ["turned", "spare", "moves"] f fd) : FnOk P w K mg base CX0 2 f fd ["turned", "spare", "moves"] (sp_around K) := by
  obtain ⟨f_along, fd_along, D_along⟩ := T.d__along
  have G_along : FnOk P w K mg base CX0 1 f_along fd_along ["way"] (sp_along K) := ok_along T D_along
  refine D.F.ok sc_around (fun vs H Q E h => ?_) (fun cdv A outer s H vs Q E hr h => ?_)
  · obtain ⟨t, m, sp, bs, qs, rs, ms, rfl, _⟩ := h
    rfl
  · obtain ⟨t, m, sp, bs, qs, rs, ms, rfl, ht, tb, ne, lr, lr2, hm, tq, lm, q⟩ := h
    have fl := nvs_flat2 rs
    refine ⟨_, (pss_cons (ps_set (i := 3) sc_around.nd rfl (.inl rfl) (pe_op op_cat (pe_lst (pa_cons (pv 1) pa_nil)) (pe_lc2 (wi1 := iTup K (tVar 5)) (own := [("ring", 5), ("block", 6)]) (vs1 := [6]) (g := gName 5) (g1 := gName 6) (tt := tYes) (tt1 := tYes) rfl sc_around.nd  (pi_list (pv 0)) (blkOk_by (own := [("ring", 5), ("block", 6)]) (N := ["turned", "spare", "moves", "opening", "closing", "ring", "block"]) (sc := defScope s_around) (by decide +kernel)) (by decide)
      (fun _ _ _ _ _ => (pg_name (i := 5) sc_around.nd rfl (.inl rfl))) (fun _ _ _ _ _ => pts_nil) (fun _ _ _ _ _ => (pi_tup (pv 5))) (fun _ _ _ _ _ => (pg_name (i := 6) sc_around.nd rfl (.inl rfl))) (fun _ _ _ _ _ => pts_nil)
      (fun _ _ _ _ _ => (pv 6)))))
    (pss_cons (ps_set (i := 4) sc_around.nd rfl (.inl rfl) (pe_op op_cat (pe_lc (own := [("ring", 5)]) (g := gName 5) (tt := tYes) rfl sc_around.nd (pi_list (pe_revL (pv 0)))
      (blkOk_by (own := [("ring", 5)]) (N := ["turned", "spare", "moves", "opening", "closing", "ring", "block"]) (sc := defScope s_around) (by decide +kernel)) (fun _ _ _ _ _ => (pg_name (i := 5) sc_around.nd rfl (.inl rfl))) (fun _ _ _ _ _ => pts_nil)
      (fun _ _ _ _ _ => (pe_ix (r := rIxT K) ix_tup (pv 5) (pe_un un_neg pe_int) (fun _ _ => rfl)))) (pe_lst (pa_cons (pv 1) pa_nil))))
    (pss_one (ps_ret (pe_op op_cat (pe_op op_cat (pe_call G_along hr (by rfl) D_along.g D_along.F.kp D_along.b .nil pass0 (pa_cons (pv 3) pa_nil)) (pv 2)) (pe_call G_along hr (by rfl) D_along.g D_along.F.kp D_along.b .nil pass0 (pa_cons (pv 4) pa_nil))))))), ?_⟩
    walk_at "rx"
    refine rd_newQ (by simp) fun H1 o1 S1 n1 h1 => ?_
    have ht1 := S1 _ _ ht
    have tb1 := NRows.same tb S1
    walk_at "rx"
    refine rd_lc2 ?_
    walk_at "rx"
    refine lc2_rows (fun b => [some (.ref t), some (.int (sp : Int)), some (.ref m), none, none, some (.ref b), none]) (fun b v => [some (.ref t), some (.int (sp : Int)), some (.ref m), none, none, some (.ref b), some v]) ht1 tb1 (by rw [fl, nvs_len]; omega) (fun _ => rfl) (fun _ _ => rfl) (fun b H R h => ?_) (fun b H R xs hb h => ?_) (fun b v H R h => ?_) (fun b v H R h => ?_) ?_
    · exact h
    · exact ⟨_, rfl, b, rfl, ⟨xs, SqT.of hb⟩, h⟩
    · exact h
    · exact ⟨_, rfl, h⟩
    intro H2 o2 S2 n2 h2
    rw [fl] at h2
    walk_at "rx"
    refine rd_catLN (S2 _ _ h1) h2 (by rw [nvs_len, List.length_singleton]; omega) ?_
    refine rd_newL fun H3 o3 S3 n3 h3 => ?_
    have h3 : H3 o3 = some (.lst (nvs (sp :: rs.flatten))) := h3
    have S13 := (S1.trans S2).trans S3
    walk_at "rx"
    refine rd_revL ?_
    walk_at "rx"
    refine rd_RvL (S13 _ _ ht) ?_
    refine rd_newL fun H4 o4 S4 n4 h4 => ?_
    rw [← List.map_reverse] at h4
    have S14 := S13.trans S4
    have tbr := NRows.rev (NRows.same tb S14)
    have lbr := NRows.len tbr
    rw [List.length_reverse, List.length_reverse] at lbr
    walk_at "rx"
    refine lc_map (walk_list (xs := bs.reverse.map V.ref)) (nvs (rs.reverse.map lst)) ?_ ?_ (fun H' S => SqL.of (S _ _ h4)) ?_ ?_
    · rw [nvs_len, List.length_map, List.length_map, List.length_reverse, List.length_reverse, lbr]
    · rw [List.length_map, List.length_reverse]
      omega
    · rintro i x H5 H6 Qc R hi S ⟨rfl, ex⟩ qc
      rw [List.length_map] at hi
      have eb : bs.reverse[i]? = some bs.reverse[i] := List.getElem?_eq_getElem hi
      rw [List.getElem?_map, eb] at ex
      cases ex
      obtain ⟨p, e1, e2⟩ := NRows.get (NRows.same tbr S) eb
      have pne : p ≠ [] := ne p (List.mem_reverse.mp (List.mem_of_getElem? e1))
      have la := nvs_last pne
      walk_at "rx"
      refine ⟨rfl, ?_⟩
      walk_at "rx"
      exact qc _ _ (Same.refl _) (nvs_get (by rw [List.getElem?_map, e1]; rfl))
    intro H5 o5 S5 n5 h5
    walk_at "rx"
    refine rd_newQ (by simp) fun H6 o6 S6 n6 h6 => ?_
    walk_at "rx"
    refine rd_catLN (S6 _ _ h5) h6 (by rw [nvs_len, List.length_map, List.length_reverse, List.length_singleton]; omega) ?_
    refine rd_newL fun H7 o7 S7 n7 h7 => ?_
    rw [show nvs (rs.reverse.map lst) ++ [V.int (sp : Int)] = nvs (rs.reverse.map lst ++ [sp]) by rw [nvs_app]; rfl] at h7
    have S47 := (S5.trans S6).trans S7
    have h3' := S47 _ _ (S4 _ _ h3)
    walk_at "rx"
    refine ⟨o3, sp :: rs.flatten, rfl, .inr h3', by simp, by rw [List.length_cons]; omega, fun H8 l8 q8 S8 h8 t8 => ?_⟩
    have S18 := (S14.trans S47).trans S8
    have l8 : q8.length ≤ 12 := by
      have := t8.1
      rw [List.length_map, along_len, List.length_cons] at this
      omega
    have lq : qs.length ≤ 40 := by
      have := tq.1
      rw [List.length_map] at this
      omega
    walk_at "rx"
    refine rd_catLN h8 (S18 _ _ hm) (by rw [List.length_map, List.length_map]; omega) ?_
    refine rd_newL fun H9 o9 S9 n9 h9 => ?_
    have h7' := S9 _ _ (S8 _ _ h7)
    walk_at "rx"
    refine ⟨o7, rs.reverse.map lst ++ [sp], rfl, .inr h7', by simp, by simp; omega, fun Ha la qa Sa ha ta => ?_⟩
    have l9 : qa.length ≤ 12 := by
      have := ta.1
      rw [List.length_map, along_len, List.length_append, List.length_map, List.length_reverse, List.length_singleton] at this
      omega
    walk_at "rx"
    refine rd_catLN (Sa _ _ h9) ha (by rw [List.length_append, List.length_map, List.length_map, List.length_map]; omega) ?_
    refine rd_newL fun Hb lb Sb nb hb => ?_
    have S1b := ((S18.trans S9).trans Sa).trans Sb
    rw [← List.map_append, ← List.map_append] at hb
    exact q Hb lb _ S1b hb (((Prs.same t8 ((S9.trans Sa).trans Sb)).app (Prs.same tq S1b)).app (Prs.same ta Sb))
def sp_moves (_K : PySem.W.Frag) : Sp := fun vs H Q _ => ∃ (a b : Addr) (es fs : List Int), vs = [.ref a, .ref b] ∧ RP H a b es fs ∧ vdt es fs = 0 ∧ ∀ H' m qs ms, Same H H' → H' m = some (.lst (qs.map V.ref)) → Prs H' qs ms → Planned es fs ms → Q (.ref m) H'
set_option maxHeartbeats 4000000 in
theorem ok_moves (T : Top K mg) {f : Addr} {fd : FuncData} (D : Def K mg "_moves" s_moves ["before", "after"] f fd) : FnOk P w K mg base (L2N.CX P w) 8 f fd ["before", "after"] (sp_moves K) := by
  obtain ⟨fchains, fdchains, Dchains⟩ := T.d_chains
  have Gchains : FnOk P w K mg base (L2N.CX P w) 6 fchains fdchains ["before", "after"] (spchains K) := okchains T Dchains
  obtain ⟨frings, fdrings, Drings⟩ := T.d_rings
  have Grings : FnOk P w K mg base (L2N.CX P w) 6 frings fdrings ["before", "after"] (springs K) := okrings T Drings
  obtain ⟨f_along, fd_along, D_along⟩ := T.d__along
  have G_along : FnOk P w K mg base CX0 1 f_along fd_along ["way"] (sp_along K) := ok_along T D_along
  obtain ⟨f_recolored, fd_recolored, D_recolored⟩ := T.d__recolored
  have G_recolored : FnOk P w K mg base (L2N.CX P w) 7 f_recolored fd_recolored ["before", "after"] (sp_recolored K) := ok_recolored T D_recolored
  obtain ⟨f_around, fd_around, D_around⟩ := T.d__around
  have G_around : FnOk P w K mg base CX0 2 f_around fd_around ["turned", "spare", "moves"] (sp_around K) := ok_around T D_around
  refine RN.okX D.F sc_moves (fun vs H Q E h => ?_) (fun cdv A outer s H vs Q E hr h => ?_)
  · obtain ⟨a, b, es, fs, rfl, _⟩ := h
    rfl
  · obtain ⟨a, b, es, fs, rfl, r, z, q⟩ := h
    have e12 := r.ia.2.1
    have Re := r.ia.2.2
    refine ⟨_, (pss_cons (ps_if (pt_cmpR (op_eqD hr.units) (pv 0) (pv 1) (nomark _)) (pss_one (ps_ret (pe_lst pa_nil))) pss_nil)
    (pss_cons (ps_setLc (i := 2) (own := [("block", 8), ("entry", 9)]) (g := gTup K 2 (gCons (gName 8) (gCons (gName 9) gNil))) (tt := _) rfl sc_moves.nd rfl rfl (sw_true rfl rfl rfl (by decide +kernel)) (pi_enO (by rfl) T.b_enumerate (pa_cons (pv 0) pa_nil))
      (blkOk_by (own := [("block", 8), ("entry", 9)]) (N := ["before", "after", "empty", "ways", "turned", "ring", "moves", "way", "block", "entry"]) (sc := defScope s_moves) (by decide +kernel)) (fun _ _ _ _ _ => (pg_tup rfl (pgs_cons (pg_name (i := 8) sc_moves.nd rfl (.inl rfl)) (pgs_cons (pg_name (i := 9) sc_moves.nd rfl (.inl rfl)) pgs_nil)))) (fun _ _ _ _ _ => pts_one (pt_cmpR op_eq (pv 9) (Rv.pe_k (by rfl) T.k_EMPTY) (nomark _)))
      (fun _ _ _ _ _ => (pv 8)))
    (pss_cons (ps_set (i := 3) sc_moves.nd rfl (.inr rfl) (pe_callS Gchains (hr.mono (by decide)) (by rfl) Dchains.g Dchains.F.kp Dchains.b (fun σ => L2N.passAt (L2N.takes_of rfl rfl rfl rfl) σ) (pa_cons (pv 0) (pa_cons (pv 1) pa_nil))))
    (pss_cons (ps_set (i := 4) sc_moves.nd rfl (.inl rfl) (pe_callS Grings (hr.mono (by decide)) (by rfl) Drings.g Drings.F.kp Drings.b (fun σ => L2N.passAt (L2N.takes_of rfl rfl rfl rfl) σ) (pa_cons (pv 0) (pa_cons (pv 1) pa_nil))))
    (C8.pss_cut (ps_if (pt_not (pt_truQ (pv 3) (by intro _; rfl))) (pss_cons (ps_set (i := 5) sc_moves.nd rfl (.inl rfl) (pe_callS G_recolored hr (by rfl) D_recolored.g D_recolored.F.kp D_recolored.b (fun σ => L2N.passAt (L2N.takes_of rfl rfl rfl rfl) σ) (pa_cons (pv 0) (pa_cons (pv 1) pa_nil))))
    (pss_cons (ps_expr (pe_bm PySem.F.plainAttrs_list PySem.F.slot_list_remove PySem.F.type_list_remove (mt_remR (by exact hr.units)) (pv 4) (pa_cons (pv 5) pa_nil)))
    (pss_one (ps_set (i := 3) sc_moves.nd rfl (.inr rfl) (pe_lst (pa_cons (pe_tup (pa_cons (pe_ix (r := rIxL K) ix_list (pv 2) pe_int (fun _ _ => rfl)) (StX.pa_star (pv 5) (pa_cons (pe_ix (r := rIxL K) ix_list (pv 2) pe_int (fun _ _ => rfl)) pa_nil)))) pa_nil)))))) pss_nil)
    (pss_cons (ps_set (i := 6) sc_moves.nd rfl (.inl rfl) (pe_call G_along (hr.mono (by decide)) (by rfl) D_along.g D_along.F.kp D_along.b .nil pass0 (pa_cons (pe_ix (r := rIxL K) ix_list (pv 3) pe_int (fun _ _ => rfl)) pa_nil)))
    (C8.pss_cut (ps_if (pt_truQ (pv 4) (by intro _; rfl)) (pss_one (ps_set (i := 6) sc_moves.nd rfl (.inl rfl) (pe_call G_around (hr.mono (by decide)) (by rfl) D_around.g D_around.F.kp D_around.b .nil pass0 (pa_cons (pv 4) (pa_cons (pe_callB (r := rMin K) (cr_min rfl) (by rfl) T.b_min (by decide +kernel) (pa_cons (pe_lc (own := [("block", 8)]) (g := gName 8) (tt := _) rfl sc_moves.nd (pi_list (pv 2))
      (blkOk_by (own := [("block", 8)]) (N := ["before", "after", "empty", "ways", "turned", "ring", "moves", "way", "block", "entry"]) (sc := defScope s_moves) (by decide +kernel)) (fun _ _ _ _ _ => (pg_name (i := 8) sc_moves.nd rfl (.inl rfl))) (fun _ _ _ _ _ => pts_one (pt_cmpR op_ne (pv 8) (pe_ix (r := rIxT K) ix_tup (pe_ix (r := rIxL K) ix_list (pv 3) pe_int (fun _ _ => rfl)) pe_int (fun _ _ => rfl)) (nomark _)))
      (fun _ _ _ _ _ => (pv 8))) pa_nil)) (pa_cons (pv 6) pa_nil)))))) pss_nil)
    (pss_cons (ps_for (passes_of rfl) rfl (pi_list (pe_slice sl_list (pv 3) (po_some pe_int) po_none)) (pg_name (i := 7) sc_moves.nd rfl (.inl rfl)) (pss_one (ps_set (i := 6) sc_moves.nd rfl (.inl rfl) (pe_op op_cat (pv 6) (pe_call G_along (hr.mono (by decide)) (by rfl) D_along.g D_along.F.kp D_along.b .nil pass0 (pa_cons (pv 7) pa_nil))))))
    (pss_one (ps_ret (pv 6))))))))))), ?_⟩
    walk_at "rx"
    refine rd_eqI r.ta r.tb ?_
    by_cases e0 : es = fs
    · rw [decide_eq_true e0]
      walk_at "rx"
      refine rd_newQ (by simp) fun H1 m S1 n1 h1 => ?_
      exact q H1 m [] [] S1 h1 TupsAt.nil (by subst e0; exact planned_same r.rn Re)
    rw [decide_eq_false e0]
    obtain ⟨m1, e2, nc⟩ := vdt0 z e0
    walk_at "rx"
    refine rd_EnO r.ta fun Gd hG0 => ?_
    refine lc_acc walk_jen (fun i acc => acc = nvs (emI es i)) rfl (fun i acc hi e => by
      rw [e, nvs_len]
      have := emI_len es i
      rw [List.length_map] at hi
      omega) (fun H' S => hG0 _ S) ?_ ?_
    · rintro i x Hx Hy acc Qc R2 hi Sx e ⟨t, u, w, rfl, nT, rfl, e1, e2⟩ qc rc
      cases e1
      have hi2 : i < es.length := by rw [List.length_map] at hi; exact hi
      have e3 : (es.map V.int)[i]? = some w := e2
      rw [List.getElem?_map, get_at hi2] at e3
      cases e3
      have S4 := same_new (o := .tup [.int (i : Nat), V.int (es.getD i 0)]) (Same.refl Hx) nT
      have nx := emI_next es i
      walk_at "rx"
      refine ⟨rfl, ?_⟩
      walk_at "rx"
      by_cases z : es.getD i 0 = -1
      · rw [decide_eq_true (show V.int (es.getD i 0) = V.int (-1) from by rw [z])]
        walk_at "rx"
        refine qc _ _ S4 ?_
        rw [nx, if_pos z, nvs_app, e]
        rfl
      · rw [decide_eq_false (show ¬ V.int (es.getD i 0) = V.int (-1) from fun w => z (V.int.inj w))]
        walk_at "rx"
        exact rc _ S4 (by rw [nx, if_neg z, List.append_nil]; exact e)
    intro H1 E acc S1 nE hE e
    rw [e, List.length_map] at hE
    have r1 := r.same S1
    have lE := emI_len es es.length
    walk_at "rx"
    refine ⟨_, _, rfl, .inl ⟨a, b, es, fs, rfl, rfl, r1, fun H2 W wbs S2 hW tW => ?_⟩⟩
    have tW : NRows H2 wbs (chns es fs) := tW
    have r2 := r1.same S2
    walk_at "rx"
    refine ⟨_, _, rfl, .inl ⟨a, b, es, fs, rfl, rfl, r2, fun H3 T tbs S3 hT tT nT => ?_⟩⟩
    have tT : NRows H3 tbs (rngs es fs) := tT
    have r3 := r2.same S3
    have hW3 := S3 _ _ hW
    have tW3 := NRows.same tW S3
    have hE3 := (S2.trans S3) _ _ hE
    have S13 := (S1.trans S2).trans S3
    walk_at "rx"
    refine ⟨fun σ' H' => ∃ (W T : Addr) (wbs tbs : List Addr) (w0 : List Nat) (cs rs : List (List Nat)) (y5 : Option V), σ' = [some (.ref a), some (.ref b), some (.ref E), some (.ref W), some (.ref T), y5, none, none, none, none] ∧ Same H H' ∧ H' E = some (.lst (nvs (emI es es.length))) ∧ H' W = some (.lst (wbs.map V.ref)) ∧ NRows H' wbs (w0 :: cs) ∧ H' T = some (.lst (tbs.map V.ref)) ∧ NRows H' tbs rs ∧ MvOk es fs w0 cs rs, ?_, ?_⟩
    · walk_at "rx"
      cases hc : chns es fs with
      | cons c0 cs =>
        rw [hc] at tW3
        have lw := NRows.len tW3
        have ew : (!(wbs.map V.ref).isEmpty) = true := by
          cases wbs with
          | nil => simp at lw
          | cons x r => rfl
        rw [ew]
        show if (!true) = true then _ else _
        walk_at "rx"
        exact ⟨W, T, wbs, tbs, c0, cs, rngs es fs, _, rfl, S13, hE3, hW3, tW3, hT, tT, MvOk.chain r.rn r.ia m1 nc hc⟩
      | nil =>
        rw [hc] at tW3
        have lw := NRows.len tW3
        have ew : (!(wbs.map V.ref).isEmpty) = false := by
          cases wbs with
          | nil => rfl
          | cons x r => simp at lw
        rw [ew]
        show if (!false) = true then _ else _
        walk_at "rx"
        refine ⟨a, b, es, fs, rfl, r3, hc, e2, fun H4 p r0 S4 hp m0 rec => ?_⟩
        have hT4 := S4 _ _ hT
        have tT4 := NRows.same tT S4
        have hE4 := S4 _ _ hE3
        obtain ⟨e0', er, he⟩ : ∃ e0 er, emI es es.length = e0 :: er := by
          have h1 : 0 < es.count (-1) := List.count_pos_iff.mpr m1
          rw [← emI_count] at h1
          cases k : emI es es.length with
          | nil => rw [k] at h1; cases h1
          | cons x r => exact ⟨x, r, rfl⟩
        obtain ⟨le0, he0⟩ := mem_emI.mp (show e0' ∈ emI es es.length by rw [he]; exact List.mem_cons_self ..)
        have nT0 : H T = none := (S1.trans S2).free nT
        walk_at "rx"
        refine rd_remR hT4 tT4 hp m0 fun cs tc => ?_
        have TE : E ≠ T := fun k => by rw [k] at hE; have := S2 _ _ hE; rw [nT] at this; cases this
        have hE5 : upd H4 T (.lst (cs.map V.ref)) E = some (.lst (nvs (emI es es.length))) := (upd_ne TE).trans hE4
        have hT5 : upd H4 T (.lst (cs.map V.ref)) T = some (.lst (cs.map V.ref)) := upd_same
        have pT : p ≠ T := fun k => by rw [k, hT4] at hp; cases hp
        have hp5 : upd H4 T (.lst (cs.map V.ref)) p = some (.tup (nvs r0)) := (upd_ne pT).trans hp
        have tc5 : NRows (upd H4 T (.lst (cs.map V.ref))) cs ((rngs es fs).erase r0) := NRows.upd tc hT4
        have S5 : Same H (upd H4 T (.lst (cs.map V.ref))) := same_mut (S13.trans S4) nT0
        generalize upd H4 T (.lst (cs.map V.ref)) = H5 at *
        rw [he] at hE5
        have a0 : atI (nvs (e0' :: er)) 0 = some (.int (e0' : Int)) := nvs_atI (i := 0) rfl
        walk_at "rx"
        refine ⟨_, rfl, p, nvs r0, rfl, .inl (SqT.of hp5), ?_⟩
        walk_at "rx"
        have e1 : (V.int (e0' : Int) :: (nvs r0 ++ [V.int (e0' : Int)])) = nvs (e0' :: r0 ++ [e0']) := by rw [nvs_app]; rfl
        have lr0 := rngs_len r.rn m0
        refine rd_newQ (by rw [List.length_cons, List.length_append, nvs_len, List.length_singleton]; omega) fun H6 w S6 n6 h6 => ?_
        rw [e1] at h6
        walk_at "rx"
        refine rd_newQ (by simp) fun H7 W2 S7 n7 h7 => ?_
        have h6' := S7 _ _ h6
        have S57 := S6.trans S7
        walk_at "rx"
        exact ⟨W2, T, [w], cs, _, [], _, _, rfl, S5.trans S57, by rw [he]; exact S57 _ _ hE5, h7, (NRows.snoc (bs := []) (ps := []) TupsAt.nil h6'), S57 _ _ hT5, NRows.same tc5 S57, MvOk.ring r.rn r.ia r.ib m1 nc hc m0 le0 he0 rec⟩
    · rintro σ H4 ⟨W, T, wbs, tbs, w0, cs, rs, y5, rfl, S4, hE4, hW4, tW4, hT4, tT4, ok⟩
      have lw := NRows.len tW4
      obtain ⟨x, wr, rfl⟩ : ∃ x wr, wbs = x :: wr := by
        cases wbs with
        | nil => simp at lw
        | cons x r => exact ⟨x, r, rfl⟩
      obtain ⟨p', k1, hx4⟩ := NRows.get tW4 (i := 0) rfl
      cases k1
      have a0 : atI ((x :: wr).map V.ref) 0 = some (.ref x) := atI_nat (j := 0) rfl
      have twr : NRows H4 wr cs := NRows.drop tW4 1
      have w2 := ok.w2
      have w1 : 0 < w0.length := List.length_pos_iff.mpr ok.w1
      have lM : (along w0).length ≤ 13 := by rw [along_len]; omega
      walk_at "rx"
      refine ⟨x, w0, rfl, .inl hx4, ok.w1, by omega, fun H5 M qs S5 hM tM => ?_⟩
      have hE5 := S5 _ _ hE4
      have hW5 := S5 _ _ hW4
      have hT5 := S5 _ _ hT4
      have tT5 := NRows.same tT4 S5
      have tW5 := NRows.same tW4 S5
      have hx5 := S5 _ _ hx4
      have SS5 := S4.trans S5
      walk_at "rx"
      refine ⟨fun σ' H' => ∃ (M : Addr) (qs : List Addr) (ms : List (Nat × Nat)), σ' = [some (.ref a), some (.ref b), some (.ref E), some (.ref W), some (.ref T), y5, some (.ref M), none, none, none] ∧ Same H H' ∧ H' M = some (.lst (qs.map V.ref)) ∧ Prs H' qs ms ∧ ms.length ≤ 60 ∧ H' W = some (.lst ((x :: wr).map V.ref)) ∧ NRows H' (x :: wr) (w0 :: cs) ∧ Planned es fs (ms ++ cs.flatMap along), ?_, ?_⟩
      · walk_at "rx"
        have lt := NRows.len tT5
        cases rs with
        | nil =>
          have et : (!(tbs.map V.ref).isEmpty) = false := by
            cases tbs with
            | nil => rfl
            | cons x r => simp at lt
          rw [et]
          walk_at "rx"
          exact ⟨M, qs, along w0, rfl, SS5, hM, tM, by omega, hW5, tW5, ok.p1 rfl⟩
        | cons r0 rs =>
          have et : (!(tbs.map V.ref).isEmpty) = true := by
            cases tbs with
            | nil => simp at lt
            | cons x r => rfl
          rw [et]
          show if true = true then _ else _
          obtain ⟨⟨sx, sx1, sx2⟩, pl⟩ := ok.p2 (by simp)
          walk_at "rx"
          refine lc_acc (walk_list (xs := nvs (emI es es.length))) (fun i acc => acc = nvs (((emI es es.length).take i).filter fun b => !decide (b = w0.getD 0 0))) rfl (fun i acc hi e => by
            rw [e, nvs_len]
            have := List.length_filter_le (fun b => !decide (b = w0.getD 0 0)) ((emI es es.length).take i)
            rw [List.length_take] at this
            omega) (fun H' S => SqL.of (S _ _ hE5)) ?_ ?_
          · rintro i y Hx Hy acc Qc R2 hi Sx e ⟨rfl, ex⟩ qc rc
            rw [nvs_len] at hi
            have ee : (emI es es.length)[i]? = some (emI es es.length)[i] := List.getElem?_eq_getElem hi
            rw [nvs_get ee] at ex
            cases ex
            have nx := fl_next (p := fun b => !decide (b = w0.getD 0 0)) hi
            have hWx := Sx _ _ hW5
            have hxx := Sx _ _ hx5
            have a1 : atI (nvs w0) 0 = some (.int ((w0.getD 0 0 : Nat) : Int)) := nvs_atI (i := 0) (by rw [List.getD_eq_getElem?_getD, List.getElem?_eq_getElem w1]; rfl)
            walk_at "rx"
            refine ⟨rfl, ?_⟩
            walk_at "rx"
            by_cases z : (emI es es.length)[i] = w0.getD 0 0
            · rw [decide_eq_true (show V.int (((emI es es.length)[i] : Nat) : Int) = V.int ((w0.getD 0 0 : Nat) : Int) by rw [z])]
              walk_at "rx"
              refine rc _ (Same.refl _) ?_
              rw [nx, decide_eq_true z, e]
              simp
            · rw [decide_eq_false (show ¬ V.int (((emI es es.length)[i] : Nat) : Int) = V.int ((w0.getD 0 0 : Nat) : Int) from fun w => z (by have := V.int.inj w; omega))]
              walk_at "rx"
              refine qc _ _ (Same.refl _) ?_
              rw [nx, decide_eq_false z, nvs_app, e]
              rfl
          intro H6 D acc S6 nD hD e
          rw [nvs_len, List.take_length] at e
          rw [e] at hD
          have hT6 := S6 _ _ hT5
          have tT6 := NRows.same tT5 S6
          have hM6 := S6 _ _ hM
          have tM6 := Prs.same tM S6
          have msx : sx ∈ (emI es es.length).filter (fun b => !decide (b = w0.getD 0 0)) := List.mem_filter.mpr ⟨sx1, by rw [decide_eq_false sx2]; rfl⟩
          walk_at "rx"
          refine rd_minL (ns := niz ((emI es es.length).filter fun b => !decide (b = w0.getD 0 0))) hD (by rw [niz_len]; exact List.length_pos_of_mem msx) fun m hm hle => ?_
          obtain ⟨sp, rfl, hsp⟩ := niz_of hm
          obtain ⟨hs1, hs2⟩ := List.mem_filter.mp hsp
          obtain ⟨hs3, hs4⟩ := mem_emI.mp hs1
          have hs5 : sp ≠ w0.getD 0 0 := fun k => by rw [decide_eq_true k] at hs2; cases hs2
          walk_at "rx"
          refine ⟨T, M, sp, tbs, qs, r0 :: rs, along w0, rfl, hT6, tT6, ok.r1, ok.r2, ok.r3, hM6, tM6, by omega, fun H7 l ns S7 hl tl => ?_⟩
          have al := around_len (r0 :: rs) sp (along w0)
          have r2 := ok.r2
          have r3 := ok.r3
          rw [List.length_flatten] at r2
          have S57 := S6.trans S7
          walk_at "rx"
          exact ⟨l, ns, _, rfl, SS5.trans S57, hl, tl, by omega, S57 _ _ hW5, NRows.same tW5 S57, pl sp hs3 hs4 hs5⟩
      · rintro σ H6 ⟨M, qs, ms, rfl, S6, hM, tM, lms, hW6, tW6, pl⟩
        walk_at "rx"
        refine rd_newL fun H7 D S7 nD hD => ?_
        rw [show cutV ((x :: wr).map V.ref) (some 1) none = wr.map V.ref from cut_from (xs := (x :: wr).map V.ref) (k := 1) (by simp)] at hD
        have tw7 : NRows H7 wr cs := NRows.same (NRows.drop tW6 1) S7
        have lwr := NRows.len tw7
        walk_at "rx"
        refine fr_it (walk_list (xs := wr.map V.ref)) (fun i σ H' => ∃ (M : Addr) (qs : List Addr) (y7 : Option V) (ms2 : List (Nat × Nat)), σ = [some (.ref a), some (.ref b), some (.ref E), some (.ref W), some (.ref T), y5, some (.ref M), y7, none, none] ∧ Same H7 H' ∧ H' M = some (.lst (qs.map V.ref)) ∧ Prs H' qs ms2 ∧ ms2 = ms ++ (cs.take i).flatMap along ∧ ms2.length ≤ 60 + 12 * i) ⟨M, qs, none, ms, rfl, Same.refl _, S7 _ _ hM, Prs.same tM S7, by rw [List.take_zero, List.flatMap_nil, List.append_nil], by omega⟩ (fun i σ H' _ pp => ?_) ?_ ?_
        · obtain ⟨_, _, _, _, _, S, _⟩ := pp
          exact SqL.of (S _ _ hD)
        · rintro i y σ H8 H9 hi ⟨M2, qs2, y7, ms2, rfl, S8, hM2, tM2, em, lm2⟩ ⟨rfl, ex⟩
          rw [List.length_map] at hi
          have ew : wr[i]? = some wr[i] := List.getElem?_eq_getElem hi
          rw [List.getElem?_map, ew] at ex
          cases ex
          have ec : cs[i]? = some cs[i] := List.getElem?_eq_getElem (by omega)
          obtain ⟨p', k1, hx8⟩ := NRows.get (NRows.same tw7 S8) ew
          rw [ec] at k1
          cases k1
          obtain ⟨cn, cl⟩ := ok.c1 _ (List.getElem_mem (show i < cs.length by omega))
          have c2 := ok.c2
          have lq2 : qs2.length = ms2.length := by have := tM2.1; rw [List.length_map] at this; exact this
          walk_at "rx"
          refine ⟨wr[i], _, rfl, .inl hx8, cn, by omega, fun Ha la qa Sa ha ta => ?_⟩
          have lqa : qa.length = cs[i].length - 1 := by have := ta.1; rw [List.length_map, along_len] at this; exact this
          walk_at "rx"
          refine rd_catLN (Sa _ _ hM2) ha (by rw [List.length_map, List.length_map]; omega) ?_
          refine rd_newL fun Hb lb Sb nb hb => ?_
          rw [← List.map_append] at hb
          walk_at "rx"
          refine ⟨lb, _, _, _, rfl, (S8.trans Sa).trans Sb, hb, (Prs.same tM2 (Sa.trans Sb)).app (Prs.same ta Sb), ?_, ?_⟩
          · rw [take_next (show i < cs.length by omega), List.flatMap_append, em, List.append_assoc]
            simp
          · rw [List.length_append, along_len]
            omega
        · rintro σ H8 ⟨M2, qs2, y7, ms2, rfl, S8, hM2, tM2, em, lm2⟩
          rw [List.length_map, lwr, List.take_length] at em
          walk_at "rx"
          exact q H8 M2 qs2 ms2 ((S6.trans S7).trans S8) hM2 tM2 (by rw [em]; exact pl)
def spplan (K : PySem.W.Frag) : Sp := fun vs H Q E => ∃ (v1 v2 : V), vs = [v1, v2] ∧ PairS K H v1 v2 E fun _ _ es fs => CfQ K H (∀ H' l ps ms, Same H H' → H' l = some (.lst (ps.map V.ref)) → TupsAt H' ps (rows (stairL es ms)) → Planned es fs ms → Q (.ref l) H') E es fs
set_option maxHeartbeats 4000000 in
theorem okplan (T : Top K mg) {f : Addr} {fd : FuncData} (D : Def K mg "plan" splan ["before", "after"] f fd) : FnOk P w K mg base (L2N.CX P w) 10 f fd ["before", "after"] (spplan K) := by
  obtain ⟨f_check_free, fd_check_free, D_check_free⟩ := T.d__check_free
  have G_check_free : FnOk P w K mg base (L2N.CX P w) 9 f_check_free fd_check_free ["before", "after"] (sp_check_free K) := ok_check_free T D_check_free
  obtain ⟨f_staircase, fd_staircase, D_staircase⟩ := T.d__staircase
  have G_staircase : FnOk P w K mg base CX0 6 f_staircase fd_staircase ["image", "moves"] (sp_staircase K) := ok_staircase T D_staircase
  obtain ⟨f_moves, fd_moves, D_moves⟩ := T.d__moves
  have G_moves : FnOk P w K mg base (L2N.CX P w) 8 f_moves fd_moves ["before", "after"] (sp_moves K) := ok_moves T D_moves
  refine RN.okX D.F scplan (fun vs H Q E h => ?_) (fun cdv A outer s H vs Q E hr h => ?_)
  · obtain ⟨v1, v2, rfl, _⟩ := h
    rfl
  · obtain ⟨v1, v2, rfl, hc⟩ := h
    refine ⟨_, (pss_cons (ps_expr (pe_callS G_check_free hr (by rfl) D_check_free.g D_check_free.F.kp D_check_free.b (fun σ => L2N.passAt (L2N.takes_of rfl rfl rfl rfl) σ) (pa_cons (pv 0) (pa_cons (pv 1) pa_nil))))
    (pss_one (ps_ret (pe_call G_staircase (hr.mono (by decide)) (by rfl) D_staircase.g D_staircase.F.kp D_staircase.b .nil pass0 (pa_cons (pv 0) (pa_cons (pe_callS G_moves (hr.mono (by decide)) (by rfl) D_moves.g D_moves.F.kp D_moves.b (fun σ => L2N.passAt (L2N.takes_of rfl rfl rfl rfl) σ) (pa_cons (pv 0) (pa_cons (pv 1) pa_nil))) pa_nil)))))), ?_⟩
    walk_at "rx"
    refine ⟨v1, v2, rfl, ?_⟩
    rcases hc with ⟨a, b, es, fs, rfl, rfl, r, q⟩ | hc
    · refine .inl ⟨a, b, es, fs, rfl, rfl, r, fun h0 H1 S1 => ?_, q.q1, q.q4⟩
      have r1 := r.same S1
      walk_at "rx"
      refine ⟨a, b, es, fs, rfl, r1, h0, fun H2 m qs ms S2 hm tq pl => ?_⟩
      have r2 := r1.same S2
      have few := planned_few pl r.ia
      walk_at "rx"
      refine ⟨a, m, es, fs, ms, qs, rfl, r2.ta, r2.ia, hm, tq, by omega, pl.climb, fun H3 l ps S3 hl tp => ?_⟩
      exact q.q0 h0 H3 l ps ms ((S1.trans S2).trans S3) hl tp pl
    · exact .inr hc
def spfewest_moves (K : PySem.W.Frag) : Sp := fun vs H Q E => ∃ (v1 v2 : V), vs = [v1, v2] ∧ PairS K H v1 v2 E fun _ _ es fs => CfQ K H (∀ H', Same H H' → Q (.int (((mvA es fs es.length).length + (rngs es fs).length : Nat) : Int)) H') E es fs
set_option maxHeartbeats 4000000 in
theorem okfewest_moves (T : Top K mg) {f : Addr} {fd : FuncData} (D : Def K mg "fewest_moves" sfewest_moves ["before", "after"] f fd) : FnOk P w K mg base (L2N.CX P w) 10 f fd ["before", "after"] (spfewest_moves K) := by
  obtain ⟨f_check_free, fd_check_free, D_check_free⟩ := T.d__check_free
  have G_check_free : FnOk P w K mg base (L2N.CX P w) 9 f_check_free fd_check_free ["before", "after"] (sp_check_free K) := ok_check_free T D_check_free
  obtain ⟨fmoving, fdmoving, Dmoving⟩ := T.d_moving
  have Gmoving : FnOk P w K mg base (L2N.CX P w) 5 fmoving fdmoving ["before", "after"] (spmoving K) := okmoving T Dmoving
  obtain ⟨frings, fdrings, Drings⟩ := T.d_rings
  have Grings : FnOk P w K mg base (L2N.CX P w) 6 frings fdrings ["before", "after"] (springs K) := okrings T Drings
  refine RN.okX D.F scfewest_moves (fun vs H Q E h => ?_) (fun cdv A outer s H vs Q E hr h => ?_)
  · obtain ⟨v1, v2, rfl, _⟩ := h
    rfl
  · obtain ⟨v1, v2, rfl, hc⟩ := h
    refine ⟨_, (pss_cons (ps_expr (pe_callS G_check_free hr (by rfl) D_check_free.g D_check_free.F.kp D_check_free.b (fun σ => L2N.passAt (L2N.takes_of rfl rfl rfl rfl) σ) (pa_cons (pv 0) (pa_cons (pv 1) pa_nil))))
    (pss_one (ps_ret (pe_op op_add (pe_callB (r := rLenQ K) call_lenQ (by rfl) T.b_len PySem.boot_len (pa_cons (pe_callS Gmoving (hr.mono (by decide)) (by rfl) Dmoving.g Dmoving.F.kp Dmoving.b (fun σ => L2N.passAt (L2N.takes_of rfl rfl rfl rfl) σ) (pa_cons (pv 0) (pa_cons (pv 1) pa_nil))) pa_nil)) (pe_callB (r := rLenQ K) call_lenQ (by rfl) T.b_len PySem.boot_len (pa_cons (pe_callS Grings (hr.mono (by decide)) (by rfl) Drings.g Drings.F.kp Drings.b (fun σ => L2N.passAt (L2N.takes_of rfl rfl rfl rfl) σ) (pa_cons (pv 0) (pa_cons (pv 1) pa_nil))) pa_nil)))))), ?_⟩
    walk_at "rx"
    refine ⟨v1, v2, rfl, ?_⟩
    rcases hc with ⟨a, b, es, fs, rfl, rfl, r, q⟩ | hc
    · refine .inl ⟨a, b, es, fs, rfl, rfl, r, fun h0 H1 S1 => ?_, q.q1, q.q4⟩
      have r1 := r.same S1
      walk_at "rx"
      refine ⟨_, _, rfl, .inl ⟨a, b, es, fs, rfl, rfl, r1, fun H2 p ms S2 hp pm pw => ?_⟩⟩
      have r2 := r1.same S2
      have lm := pm.length_eq
      have lm2 : (mvA es fs es.length).length ≤ es.length := by
        have l2 := List.length_filter_le (fun b => !decide (fs.getD b 0 = es.getD b 0) && !decide (fs.getD b 0 = -1)) (List.range es.length)
        rw [List.length_range] at l2
        unfold mvA
        rw [List.length_map]
        exact l2
      have e12 := r.ia.2.1
      walk_at "rx"
      refine ⟨_, _, rfl, .inl ⟨a, b, es, fs, rfl, rfl, r2, fun H3 l bs S3 hl tb _ => ?_⟩⟩
      have lb := NRows.len tb
      have ls2 : (tops es fs es.length).length ≤ es.length := by
        have := List.length_filter_le (fun b => decide (IsR (G es fs) (Fo es fs b))) (List.range es.length)
        rw [List.length_range] at this
        exact this
      rw [List.length_map] at lb
      walk_at "rx"
      have := q.q0 h0 _ ((S1.trans S2).trans S3)
      rw [List.length_map, List.length_map, lm, lb]
      unfold rngs at this
      rw [List.length_map] at this
      exact this
    · exact .inr hc
def sp_law_is_reason (_K : PySem.W.Frag) : Sp := fun vs H Q _ => ∃ (p d : Addr) (es fs : List Int) (k : Nat), vs = [.ref p, .ref d] ∧ RsnAt H p k es fs ∧ RsnAt H d k es fs ∧ ∀ H', Same H H' → Q (.bl true) H'
set_option maxHeartbeats 4000000 in
theorem ok_law_is_reason (T : Top K mg) {f : Addr} {fd : FuncData} (D : Def K mg "_law_is_reason" s_law_is_reason ["told", "due"] f fd) : FnOk P w K mg base CX0 3 f fd ["told", "due"] (sp_law_is_reason K) := by
  obtain ⟨f_law_row, fd_law_row, D_law_row⟩ := T.d__law_row
  have G_law_row : FnOk P w K mg base CX0 2 f_law_row fd_law_row ["told"] (sp_law_row K) := ok_law_row T D_law_row
  refine D.F.ok sc_law_is_reason (fun vs H Q E h => ?_) (fun cdv A outer s H vs Q E hr h => ?_)
  · obtain ⟨p, d, es, fs, k, rfl, _⟩ := h
    rfl
  · obtain ⟨p, d, es, fs, k, rfl, hp, hd, q⟩ := h
    obtain ⟨xs, hx⟩ := hp.kind
    refine ⟨_, (pss_cons (ps_if (PW.pt (pw_or (pt_not (pt_val (pe_callB (r := rIsi K) call_isi (by rfl) T.b_isinstance (by decide +kernel) (pa_cons (pv 0) (pa_cons (pe_bltn (v := .ty "tuple") (by rfl) T.b_tuple (by decide +kernel) rfl) pa_nil))))) (pw_or1 (pt_cmpR (op_neD hr.units) (pv 0) (pv 1) (nomark _))))) (pss_one (ps_ret pe_bl)) pss_nil)
    (C8.pss_cut (ps_if (pt_cmpR op_eq (pe_callB (r := rLenQ K) call_lenQ (by rfl) T.b_len PySem.boot_len (pa_cons (pv 0) pa_nil)) pe_int (nomark _)) (pss_one (ps_for PassesOwn.never rfl (pi_tup (pe_ix (r := rIxT K) ix_tup (pv 0) pe_int (fun _ _ => rfl))) (pg_name (i := 2) sc_law_is_reason.nd rfl (.inl rfl)) (pss_one (ps_if (pt_not (pt_val (pe_call G_law_row hr (by rfl) D_law_row.g D_law_row.F.kp D_law_row.b .nil pass0 (pa_cons (pv 2) pa_nil)))) (pss_one (ps_ret pe_bl)) pss_nil)))) pss_nil)
    (pss_one (ps_ret pe_bl)))), ?_⟩
    walk_at "rx"
    refine rd_neRsn hp hd ?_
    walk_at "rx"
    refine ⟨fun σ' H' => ∃ (y2 : Option V), σ' = [some (.ref p), some (.ref d), y2] ∧ H' = H, ?_, ?_⟩
    · rcases hp with ⟨e, h1⟩ | ⟨e, h1⟩ | ⟨e, t, bs, h1, h2, tb⟩
      · rw [h1] at hx
        cases hx
        walk_at "rx"
        rw [decide_eq_false (show ¬ V.int (([V.str (Str.ofString "full")].length : Nat) : Int) = V.int 2 from fun w => by have := V.int.inj w; simp at this)]
        walk_at "rx"
        exact ⟨_, rfl, rfl⟩
      · rw [h1] at hx
        cases hx
        walk_at "rx"
        rw [decide_eq_false (show ¬ V.int (([V.str (Str.ofString "alike")].length : Nat) : Int) = V.int 2 from fun w => by have := V.int.inj w; simp at this)]
        walk_at "rx"
        exact ⟨_, rfl, rfl⟩
      rw [h1] at hx
      cases hx
      have lb := NRows.len tb
      walk_at "rx"
      rw [decide_eq_true (show V.int (([V.str (Str.ofString "rings"), V.ref t].length : Nat) : Int) = V.int 2 from rfl)]
      walk_at "rx"
      refine fr_it (walk_tup (xs := bs.map V.ref)) (fun i σ H' => ∃ (y2 : Option V), σ = [some (.ref p), some (.ref d), y2] ∧ H' = H) ⟨none, rfl, rfl⟩ (fun i σ H' _ pp => ?_) ?_ ?_
      · obtain ⟨_, _, rfl⟩ := pp
        exact SqT.of h2
      · rintro i x σ Ha Hb hi ⟨y2, rfl, rfl⟩ ⟨eH, ex⟩
        subst eH
        rw [List.length_map] at hi
        have eb : bs[i]? = some bs[i] := List.getElem?_eq_getElem hi
        rw [List.getElem?_map, eb] at ex
        cases ex
        obtain ⟨r, f1, g1⟩ := NRows.get tb eb
        walk_at "rx"
        refine ⟨bs[i], niz r, rfl, g1, ?_⟩
        walk_at "rx"
        exact ⟨_, rfl, rfl⟩
      · rintro σ Ha ⟨y2, rfl, rfl⟩
        exact ⟨_, rfl, rfl⟩
    rintro σ' H' ⟨y2, rfl, rfl⟩
    walk_at "rx"
    exact q _ (Same.refl _)
set_option maxHeartbeats 4000000 in
theorem okQ_law_is_reason (T : Top K mg) {f : Addr} {fd : FuncData} (D : Def K mg "_law_is_reason" s_law_is_reason ["told", "due"] f fd) : L2H.FnH P w K mg base CX0 3 f fd ["told", "due"] (sp_law_is_reason K) := by
  obtain ⟨f_law_row, fd_law_row, D_law_row⟩ := T.d__law_row
  have GQ_law_row : L2H.FnH P w K mg base CX0 2 f_law_row fd_law_row ["told"] (sp_law_row K) := okQ_law_row T D_law_row
  refine RN.okH D.F sc_law_is_reason (fun vs H Q E h => ?_) (fun cdv A outer s H vs Q E p hot hr h => ?_)
  · obtain ⟨p, d, es, fs, k, rfl, _⟩ := h
    rfl
  · obtain ⟨p, d, es, fs, k, rfl, hp, hd, q⟩ := h
    obtain ⟨xs, hx⟩ := hp.kind
    refine ⟨_, (pss_cons (ps_if (PW.pt (pw_or (pt_not (pt_val (pe_callB (r := rIsi K) call_isi (by rfl) T.b_isinstance (by decide +kernel) (pa_cons (pv 0) (pa_cons (pe_bltn (v := .ty "tuple") (by rfl) T.b_tuple (by decide +kernel) rfl) pa_nil))))) (pw_or1 (pt_cmpR (op_neD (unitsH hr)) (pv 0) (pv 1) (nomark _))))) (pss_one (ps_ret pe_bl)) pss_nil)
    (C8.pss_cut (ps_if (pt_cmpR op_eq (pe_callB (r := rLenQ K) call_lenQ (by rfl) T.b_len PySem.boot_len (pa_cons (pv 0) pa_nil)) pe_int (nomark _)) (pss_one (L2H.ps_forH (passes_of rfl) (RN.hotC hot) (RH.pi_tupH (pe_ix (r := rIxT K) ix_tup (pv 0) pe_int (fun _ _ => rfl))) (pg_name (i := 2) sc_law_is_reason.nd rfl (.inl rfl)) (pss_one (ps_if (pt_not (pt_val (L2H.pe_callH GQ_law_row (L2H.RoomH.mono hr (by decide)) (RN.hotC hot) (by rfl) D_law_row.g D_law_row.F.kp D_law_row.b RN.at0 (pa_cons (pv 2) pa_nil)))) (pss_one (ps_ret pe_bl)) pss_nil)))) pss_nil)
    (pss_one (ps_ret pe_bl)))), ?_⟩
    walk_at "rx"
    refine rd_neRsn hp hd ?_
    walk_at "rx"
    refine ⟨fun σ' H' => ∃ (y2 : Option V), σ' = [some (.ref p), some (.ref d), y2] ∧ H' = H, ?_, ?_⟩
    · rcases hp with ⟨e, h1⟩ | ⟨e, h1⟩ | ⟨e, t, bs, h1, h2, tb⟩
      · rw [h1] at hx
        cases hx
        walk_at "rx"
        rw [decide_eq_false (show ¬ V.int (([V.str (Str.ofString "full")].length : Nat) : Int) = V.int 2 from fun w => by have := V.int.inj w; simp at this)]
        walk_at "rx"
        exact ⟨_, rfl, rfl⟩
      · rw [h1] at hx
        cases hx
        walk_at "rx"
        rw [decide_eq_false (show ¬ V.int (([V.str (Str.ofString "alike")].length : Nat) : Int) = V.int 2 from fun w => by have := V.int.inj w; simp at this)]
        walk_at "rx"
        exact ⟨_, rfl, rfl⟩
      rw [h1] at hx
      cases hx
      have lb := NRows.len tb
      walk_at "rx"
      rw [decide_eq_true (show V.int (([V.str (Str.ofString "rings"), V.ref t].length : Nat) : Int) = V.int 2 from rfl)]
      walk_at "rx"
      refine fr_it (walk_tup (xs := bs.map V.ref)) (fun i σ H' => ∃ (y2 : Option V), σ = [some (.ref p), some (.ref d), y2] ∧ H' = H) ⟨none, rfl, rfl⟩ (fun i σ H' _ pp => ?_) ?_ ?_
      · obtain ⟨_, _, rfl⟩ := pp
        exact SqT.of h2
      · rintro i x σ Ha Hb hi ⟨y2, rfl, rfl⟩ ⟨eH, ex⟩
        subst eH
        rw [List.length_map] at hi
        have eb : bs[i]? = some bs[i] := List.getElem?_eq_getElem hi
        rw [List.getElem?_map, eb] at ex
        cases ex
        obtain ⟨r, f1, g1⟩ := NRows.get tb eb
        walk_at "rx"
        refine ⟨bs[i], niz r, rfl, g1, ?_⟩
        walk_at "rx"
        exact ⟨_, rfl, rfl⟩
      · rintro σ Ha ⟨y2, rfl, rfl⟩
        exact ⟨_, rfl, rfl⟩
    rintro σ' H' ⟨y2, rfl, rfl⟩
    walk_at "rx"
    exact q _ (Same.refl _)
def sp_check_images (K : PySem.W.Frag) : Sp := fun vs H Q E => ∃ (a b : Addr) (es fs : List Int), vs = [.ref a, .ref b] ∧ RP H a b es fs ∧ ∀ H', Same H H' → Q .non H'
set_option maxHeartbeats 4000000 in
theorem ok_check_images (T : Top K mg) {f : Addr} {fd : FuncData} (D : Def K mg "_check_images" s_check_images ["before", "after"] f fd) : FnOk P w K mg base (L2N.CX P w) 4 f fd ["before", "after"] (sp_check_images K) := by
  obtain ⟨fE_InvalidImage, fdE_InvalidImage, ET_InvalidImage, FE_InvalidImage, bE_InvalidImage⟩ := T.e_InvalidImage
  have GI_InvalidImage := okInit_InvalidImage (P := P) (w := w) (base := base) ET_InvalidImage FE_InvalidImage
  obtain ⟨fcheck_image, fdcheck_image, Dcheck_image⟩ := T.d_check_image
  have Gcheck_image : FnOk P w K mg base (L2N.CX P w) 3 fcheck_image fdcheck_image ["image"] (spcheck_image K) := okcheck_image T Dcheck_image
  refine RN.okX D.F sc_check_images (fun vs H Q E h => ?_) (fun cdv A outer s H vs Q E hr h => ?_)
  · obtain ⟨a, b, es, fs, rfl, _⟩ := h
    rfl
  · obtain ⟨a, b, es, fs, rfl, r, q⟩ := h
    have le := r.rn.len
    refine ⟨_, (pss_cons (ps_expr (pe_callS Gcheck_image hr (by rfl) Dcheck_image.g Dcheck_image.F.kp Dcheck_image.b (fun σ => L2N.passAt (L2N.takes_of rfl rfl rfl rfl) σ) (pa_cons (pv 0) pa_nil)))
    (pss_cons (ps_expr (pe_callS Gcheck_image hr (by rfl) Dcheck_image.g Dcheck_image.F.kp Dcheck_image.b (fun σ => L2N.passAt (L2N.takes_of rfl rfl rfl rfl) σ) (pa_cons (pv 1) pa_nil)))
    (pss_one (ps_if (pt_cmpR op_ne (pe_callB (r := rLenQ K) call_lenQ (by rfl) T.b_len PySem.boot_len (pa_cons (pv 0) pa_nil)) (pe_callB (r := rLenQ K) call_lenQ (by rfl) T.b_len PySem.boot_len (pa_cons (pv 1) pa_nil)) (nomark _)) (pss_one (RN.ps_raiseQ rfl (L2N.takes_of rfl rfl rfl rfl) (RN.pmk_oex ET_InvalidImage.ox ET_InvalidImage.iC ET_InvalidImage.tI GI_InvalidImage (hr.mono (by decide)) bE_InvalidImage .nil pass0 (by rfl) ET_InvalidImage.gC (pa_cons (pe_un un_neg pe_int) pa_nil)))) pss_nil)))), ?_⟩
    walk_at "rx"
    refine ⟨.ref a, rfl, .inl ⟨es, ⟨a, rfl, r.ta, r.ia⟩, fun H1 S1 => ?_⟩⟩
    have r1 := r.same S1
    walk_at "rx"
    refine ⟨.ref b, rfl, .inl ⟨fs, ⟨b, rfl, r1.tb, r1.ib⟩, fun H2 S2 => ?_⟩⟩
    have S12 := S1.trans S2
    have r2 := r1.same S2
    have ha2 := r2.ta
    have hb2 := r2.tb
    walk_at "rx"
    rw [decide_eq_true (show V.int ((es.length : Nat) : Int) = V.int ((fs.length : Nat) : Int) from by rw [le])]
    walk_at "rx"
    exact q H2 S12
def spanchors (K : PySem.W.Frag) : Sp := fun vs H Q E => ∃ (a b : Addr) (es fs : List Int), vs = [.ref a, .ref b] ∧ RP H a b es fs ∧ ∀ H' D, Same H H' → H D = none → H' D = some (.tup ((anL es fs).map V.int)) → Q (.ref D) H'
set_option maxHeartbeats 4000000 in
theorem okanchors (T : Top K mg) {f : Addr} {fd : FuncData} (D : Def K mg "anchors" sanchors ["before", "after"] f fd) : FnOk P w K mg base (L2N.CX P w) 5 f fd ["before", "after"] (spanchors K) := by
  obtain ⟨f_check_images, fd_check_images, D_check_images⟩ := T.d__check_images
  have G_check_images : FnOk P w K mg base (L2N.CX P w) 4 f_check_images fd_check_images ["before", "after"] (sp_check_images K) := ok_check_images T D_check_images
  refine RN.okX D.F scanchors (fun vs H Q E h => ?_) (fun cdv A outer s H vs Q E hr h => ?_)
  · obtain ⟨a, b, es, fs, rfl, _⟩ := h
    rfl
  · obtain ⟨a, b, es, fs, rfl, r, q⟩ := h
    refine ⟨_, (pss_cons (ps_expr (pe_callS G_check_images hr (by rfl) D_check_images.g D_check_images.F.kp D_check_images.b (fun σ => L2N.passAt (L2N.takes_of rfl rfl rfl rfl) σ) (pa_cons (pv 0) (pa_cons (pv 1) pa_nil))))
    (pss_cons (ps_set (i := 2) scanchors.nd rfl (.inr rfl) pe_dnewK)
    (pss_cons (ps_for (passes_of rfl) rfl (pi_enP (by rfl) T.b_enumerate (pa_cons (pv 1) pa_nil)) (pg_tup rfl (pgs_cons (pg_name (i := 3) scanchors.nd rfl (.inl rfl)) (pgs_cons (pg_name (i := 4) scanchors.nd rfl (.inl rfl)) pgs_nil))) (pss_one (ps_if (PW.pt (pw_and (pt_cmpR op_ne (pv 4) (Rv.pe_k (by rfl) T.k_EMPTY) (nomark _)) (pw_and1 (pt_cmpR op_eq (pv 4) (pe_ix (r := rIxT K) ix_tup (pv 0) (pv 3) (fun _ _ => rfl)) (nomark _))))) (pss_one (ps_expr (pe_dsetd (pv 2) (pv 4) (pv 3) ⟨rfl, by rfl, by rfl, by rfl⟩))) pss_nil)))
    (pss_one (ps_ret (pe_callTy (r := rTupQ K) call_tupQ (by rfl) T.b_tuple (by decide +kernel) (pa_cons (pe_lc (own := [("entry", 4)]) (g := gName 4) (tt := tYes) rfl scanchors.nd (pi_tup (pv 1))
      (blkOk_by (own := [("entry", 4)]) (N := ["before", "after", "kept", "block", "entry"]) (sc := defScope sanchors) (by decide +kernel)) (fun _ _ _ _ _ => (pg_name (i := 4) scanchors.nd rfl (.inl rfl))) (fun _ _ _ _ _ => pts_nil)
      (fun _ _ _ _ _ => (pe_dget2 (hu_of hr) (pv 2) (pv 4) (Rv.pe_k (by rfl) T.k_EMPTY) ⟨rfl, by rfl, by rfl, by rfl⟩))) pa_nil))))))), ?_⟩
    walk_at "rx"
    refine ⟨a, b, es, fs, rfl, r, fun H1 S1 => ?_⟩
    have J := r.ib
    have le := r.rn.len
    have r1 := r.same S1
    have ha := r1.ta
    have hb := r1.tb
    have f12 := J.2.1
    walk_at "rx"
    refine rd_newL fun H2 kd S2 nkd hkd => ?_
    have hb2 := hb.same S2
    walk_at "rx"
    refine ⟨b, fs, rfl, hb2, fun G hG0 => ?_⟩
    refine fr_it walk_jen (fun i σ H' => ∃ (y3 y4 : Option V) (kvs : List (Key × V)), σ = [some (.ref a), some (.ref b), some (.ref kd), y3, y4] ∧ Same H1 H' ∧ H' kd = some (.dK kvs) ∧ Kp es fs i kvs)
      ⟨none, none, [], rfl, S2, hkd, Kp.nil⟩ (fun i σ H' _ pp => ?_) ?_ ?_
    · obtain ⟨_, _, _, _, S, _⟩ := pp
      exact hG0 _ (hb.kp S2 S)
    · rintro i x σ Ha Hb hi ⟨y3, y4, kvs, rfl, Sa, hka, Ka⟩ ⟨t, u, w, rfl, nT, rfl, e1, e2⟩
      cases e1
      have hi2 : i < fs.length := by rw [List.length_map] at hi; exact hi
      have e3 : (fs.map V.int)[i]? = some w := e2
      rw [List.getElem?_map, List.getElem?_eq_getElem hi2] at e3
      cases e3
      have gf : fs.getD i 0 = fs[i] := getD_get hi2
      have rg := J.2.2 _ (List.getElem_mem hi2)
      have ae : atI (es.map V.int) (i : Int) = some (.int (es.getD i 0)) := atI_ints (by omega) (by omega)
      generalize fs[i] = x at *
      have S4 := same_new (o := .tup [.int (i : Nat), V.int x]) (Same.refl Ha) nT
      have ha4 := (ha.same Sa).same S4
      have hk4 := S4 _ _ hka
      have lk := Ka.len
      have noKept : ¬ (x ≠ -1 ∧ x = es.getD i 0) → Kp es fs (i + 1) kvs := fun no => Ka.skip fun y y0 kb => by
        have e := kb.2
        rw [gf] at e
        exact no ⟨by omega, by rw [kb.1, e]⟩
      walk_at "rx"
      by_cases z : x = -1
      · rw [decide_eq_true (show V.int x = V.int (-1) from by rw [z])]
        walk_at "rx"
        exact ⟨_, _, kvs, rfl, Sa.trans S4, hk4, noKept fun w => w.1 z⟩
      · rw [decide_eq_false (show ¬ V.int x = V.int (-1) from fun w => z (V.int.inj w))]
        walk_at "rx"
        by_cases y : x = es.getD i 0
        · rw [decide_eq_true (show V.int x = V.int (es.getD i 0) from by rw [← y])]
          walk_at "rx"
          have kb : KeptB es fs i x := ⟨y.symm, gf⟩
          refine rd_setdv rfl hk4 ?_
          walk_at "rx"
          refine rd_SD hk4 (by omega) (fun v2 ev => ?_) (fun ev => ?_)
          · walk_at "rx"
            exact ⟨_, _, kvs, rfl, Sa.trans S4, hk4, Ka.old kb ev⟩
          · walk_at "rx"
            exact ⟨_, _, _, rfl, same_mut (Sa.trans S4) nkd, upd_same, Ka.put kb (by omega) ev⟩
        · rw [decide_eq_false (show ¬ V.int x = V.int (es.getD i 0) from fun w => y (V.int.inj w))]
          walk_at "rx"
          exact ⟨_, _, kvs, rfl, Sa.trans S4, hk4, noKept fun w => y w.2⟩
    · rintro σ Ha ⟨y3, y4, kvs, rfl, Sa, hka, Ka⟩
      rw [List.length_map] at Ka
      have hba := hb.same Sa
      walk_at "rx"
      refine lc_map (walk_tup (xs := fs.map V.int)) ((anL es fs).map V.int) (by rw [List.length_map, List.length_map]; exact List.length_map ..) (by rw [List.length_map]; omega) (fun H' S => (hba.same S).sq) ?_ ?_
      · rintro i x Hx Hy Qc R hi Sx ⟨eH, ex⟩ qc
        subst eH
        have hi2 : i < fs.length := by rw [List.length_map] at hi; exact hi
        rw [List.getElem?_map, List.getElem?_eq_getElem hi2] at ex
        cases ex
        have ey : ((anL es fs).map V.int)[i]? = some (.int (an es fs fs[i])) := by
          unfold anL
          rw [List.getElem?_map, List.getElem?_map, List.getElem?_eq_getElem hi2]
          rfl
        have hkx := Sx _ _ hka
        generalize fs[i] = x at *
        walk_at "rx"
        refine ⟨rfl, ?_⟩
        walk_at "rx"
        refine rd_dget2v rfl hkx ?_
        walk_at "rx"
        refine rd_GD hkx ?_
        rw [Ka.get x]
        exact qc _ _ (Same.refl _) ey
      · intro Hc l Sc nl hl
        walk_at "rx"
        refine rd_newL fun Hd D Sd nD hD => ?_
        have S0 := (S1.trans Sa).trans Sc
        exact q Hd D (S0.trans Sd) (S0.free nD) hD
def spunanchored (K : PySem.W.Frag) : Sp := fun vs H Q E => ∃ (a b : Addr) (es fs : List Int), vs = [.ref a, .ref b] ∧ RP H a b es fs ∧ ∀ H' D os, Same H H' → H D = none → H' D = some (.tup (os.map V.int)) → Asc (looseL es fs) os → Q (.ref D) H'
set_option maxHeartbeats 4000000 in
theorem okunanchored (T : Top K mg) {f : Addr} {fd : FuncData} (D : Def K mg "unanchored" sunanchored ["before", "after"] f fd) : FnOk P w K mg base (L2N.CX P w) 6 f fd ["before", "after"] (spunanchored K) := by
  obtain ⟨fanchors, fdanchors, Danchors⟩ := T.d_anchors
  have Ganchors : FnOk P w K mg base (L2N.CX P w) 5 fanchors fdanchors ["before", "after"] (spanchors K) := okanchors T Danchors
  refine RN.okX D.F scunanchored (fun vs H Q E h => ?_) (fun cdv A outer s H vs Q E hr h => ?_)
  · obtain ⟨a, b, es, fs, rfl, _⟩ := h
    rfl
  · obtain ⟨a, b, es, fs, rfl, r, q⟩ := h
    refine ⟨_, (pss_cons (ps_set (i := 2) scunanchored.nd rfl (.inr rfl) (pe_callS Ganchors hr (by rfl) Danchors.g Danchors.F.kp Danchors.b (fun σ => L2N.passAt (L2N.takes_of rfl rfl rfl rfl) σ) (pa_cons (pv 0) (pa_cons (pv 1) pa_nil))))
    (pss_one (ps_ret (pe_callTy (r := rTupQ K) call_tupQ (by rfl) T.b_tuple (by decide +kernel) (pa_cons (pe_callB (r := rSortedSet w) (cr_sortedSet rfl) (by rfl) T.b_sorted (by decide +kernel) (pa_cons (pe_si (w := w) (own := [("block", 3), ("entry", 4)]) (g := gTup K 2 (gCons (gName 3) (gCons (gName 4) gNil))) (tt := _) rfl rfl scunanchored.nd (pi_enP (by rfl) T.b_enumerate (pa_cons (pv 1) pa_nil))
      (blkOk_by (own := [("block", 3), ("entry", 4)]) (N := ["before", "after", "held", "block", "entry"]) (sc := defScope sunanchored) (by decide +kernel)) (fun _ _ _ _ _ => (pg_tup rfl (pgs_cons (pg_name (i := 3) scunanchored.nd rfl (.inl rfl)) (pgs_cons (pg_name (i := 4) scunanchored.nd rfl (.inl rfl)) pgs_nil)))) (fun _ _ _ _ _ => pts_one (PW.pt (pw_and (pt_cmpR op_ne (pv 4) (Rv.pe_k (by rfl) T.k_EMPTY) (nomark _)) (pw_and1 (pt_cmpR op_eq (pe_ix (r := rIxT K) ix_tup (pv 2) (pv 3) (fun _ _ => rfl)) (Rv.pe_k (by rfl) T.k_EMPTY) (nomark _))))))
      (fun _ _ _ _ _ => (pv 4))) pa_nil)) pa_nil))))), ?_⟩
    walk_at "rx"
    refine ⟨a, b, es, fs, rfl, r, fun H1 hd S1 nhd hhd => ?_⟩
    have J := r.ib
    have le := r.rn.len
    have r1 := r.same S1
    have ha := r1.ta
    have hb := r1.tb
    have f12 := J.2.1
    walk_at "rx"
    refine rd_si ?_
    walk_at "rx"
    refine ⟨b, fs, rfl, hb, fun G hG0 => ?_⟩
    refine si_it walk_jen (fun i ks => ks = (fs.take i).filter fun x => decide (0 ≤ x ∧ an es fs x < 0)) (by simp) (fun i ks hi e => ?_) (fun H' S => hG0 _ (hb.kp (Same.refl _) S)) ?_ ?_
    · rw [e]
      have := List.length_filter_le (fun x => decide (0 ≤ x ∧ an es fs x < 0)) (fs.take i)
      rw [List.length_take] at this
      omega
    · rintro i x Ha Hb ks Qc R hi Sa e ⟨t, u, w, rfl, nT, rfl, e1, e2⟩ qc rc
      subst e
      cases e1
      have hi2 : i < fs.length := by rw [List.length_map] at hi; exact hi
      have e3 : (fs.map V.int)[i]? = some w := e2
      rw [List.getElem?_map, List.getElem?_eq_getElem hi2] at e3
      cases e3
      have rg := J.2.2 _ (List.getElem_mem hi2)
      have ae : atI ((anL es fs).map V.int) (i : Int) = some (.int (an es fs fs[i])) := by
        refine atI_nat ?_
        unfold anL
        rw [List.getElem?_map, List.getElem?_map, List.getElem?_eq_getElem hi2]
        rfl
      have tn := take_next hi2
      generalize fs[i] = x at *
      have ab := an_of (es := es) (fs := fs) (x := x)
      have S4 := same_new (o := .tup [.int (i : Nat), V.int x]) (Same.refl Ha) nT
      have hh4 := S4 _ _ (Sa _ _ hhd)
      walk_at "rx"
      refine ⟨rfl, ?_⟩
      walk_at "rx"
      by_cases z : x = -1
      · rw [decide_eq_true (show V.int x = V.int (-1) from by rw [z])]
        walk_at "rx"
        refine rc _ S4 ?_
        rw [tn, List.filter_append, List.filter_cons_of_neg (by simp; omega), List.filter_nil, List.append_nil]
      · rw [decide_eq_false (show ¬ V.int x = V.int (-1) from fun w => z (V.int.inj w))]
        walk_at "rx"
        by_cases y : an es fs x = -1
        · rw [decide_eq_true (show V.int (an es fs x) = V.int (-1) from by rw [y])]
          walk_at "rx"
          refine qc _ _ S4 ?_
          rw [tn, List.filter_append, List.filter_cons_of_pos (by simp; omega), List.filter_nil]
        · rw [decide_eq_false (show ¬ V.int (an es fs x) = V.int (-1) from fun w => y (V.int.inj w))]
          walk_at "rx"
          refine rc _ S4 ?_
          rw [tn, List.filter_append, List.filter_cons_of_neg (by simp; omega), List.filter_nil, List.append_nil]
    · intro H2 st ks c S2 nst hc hst e
      rw [List.length_map, List.take_of_length_le (Nat.le_refl _)] at e
      have e : ks = looseL es fs := e
      subst e
      have ll : (looseL es fs).length ≤ fs.length := List.length_filter_le _ _
      walk_at "rx"
      refine rd_sortedI hst (by omega) fun H3 so os S3 nso hso asc lc => ?_
      walk_at "rx"
      refine rd_newL fun H4 D S4 nD hD => ?_
      have S0 := (S1.trans S2).trans S3
      exact q H4 D os (S0.trans S4) (S0.free nD) hD asc
def sp_write (_K : PySem.W.Frag) : Sp := fun vs H Q _ => ∃ (b a : Int), vs = [.int b, .int a] ∧ ∀ H' D, Same H H' → H D = none → H' D = some (.tup (wrV (b, a))) → Q (.ref D) H'
set_option maxHeartbeats 4000000 in
theorem ok_write (T : Top K mg) {f : Addr} {fd : FuncData} (D : Def K mg "_write" s_write ["block", "anchor"] f fd) : FnOk P w K mg base CX0 1 f fd ["block", "anchor"] (sp_write K) := by
  refine D.F.ok sc_write (fun vs H Q E h => ?_) (fun cdv A outer s H vs Q E hr h => ?_)
  · obtain ⟨b, a, rfl, _⟩ := h
    rfl
  · obtain ⟨b, a, rfl, q⟩ := h
    refine ⟨_, (pss_cons (ps_if (pt_cmpR op_eq (pv 1) (Rv.pe_k (by rfl) T.k_EMPTY) (nomark _)) (pss_one (ps_ret (pe_tup (pa_cons pe_str (pa_cons (pv 0) (pa_cons (Rv.pe_k (by rfl) T.k_EMPTY) (pa_cons pe_str pa_nil))))))) pss_nil)
    (pss_one (ps_ret (pe_tup (pa_cons pe_str (pa_cons (pv 0) (pa_cons (pv 1) (pa_cons pe_str pa_nil)))))))), ?_⟩
    walk_at "rx"
    by_cases z : a = -1
    · rw [decide_eq_true (show V.int a = V.int (-1) from by rw [z])]
      walk_at "rx"
      refine rd_newQ (by simp) fun H1 D S1 nD hD => ?_
      refine q H1 D S1 nD ?_
      rw [hD]
      unfold wrV
      rw [if_pos z]
      rfl
    · rw [decide_eq_false (show ¬ V.int a = V.int (-1) from fun w => z (V.int.inj w))]
      walk_at "rx"
      refine rd_newQ (by simp) fun H1 D S1 nD hD => ?_
      refine q H1 D S1 nD ?_
      rw [hD]
      unfold wrV
      rw [if_neg z]
      rfl
def spreplace_script (K : PySem.W.Frag) : Sp := fun vs H Q E => ∃ (a b : Addr) (es fs : List Int), vs = [.ref a, .ref b] ∧ RP H a b es fs ∧ ((looseL es fs = [] ∧ es = fs ∧ ∀ H' D, Same H H' → H' D = some (.lst []) → Q (.ref D) H') ∨
      (∃ x r, Asc (looseL es fs) (x :: r) ∧ ∀ H' d, Same H H' → H' d = some (.xd [("value", .int x)]) → E (.ref (atTop K "NotAnchored")) (some d) H'))
set_option maxHeartbeats 4000000 in
theorem okreplace_script (T : Top K mg) {f : Addr} {fd : FuncData} (D : Def K mg "replace_script" sreplace_script ["before", "after"] f fd) : FnOk P w K mg base (L2N.CX P w) 7 f fd ["before", "after"] (spreplace_script K) := by
  obtain ⟨fE_NotAnchored, fdE_NotAnchored, ET_NotAnchored, FE_NotAnchored, bE_NotAnchored⟩ := T.e_NotAnchored
  have GI_NotAnchored := okInit_NotAnchored (P := P) (w := w) (base := base) ET_NotAnchored FE_NotAnchored
  obtain ⟨funanchored, fdunanchored, Dunanchored⟩ := T.d_unanchored
  have Gunanchored : FnOk P w K mg base (L2N.CX P w) 6 funanchored fdunanchored ["before", "after"] (spunanchored K) := okunanchored T Dunanchored
  obtain ⟨f_write, fd_write, D_write⟩ := T.d__write
  have G_write : FnOk P w K mg base CX0 1 f_write fd_write ["block", "anchor"] (sp_write K) := ok_write T D_write
  obtain ⟨fanchors, fdanchors, Danchors⟩ := T.d_anchors
  have Ganchors : FnOk P w K mg base (L2N.CX P w) 5 fanchors fdanchors ["before", "after"] (spanchors K) := okanchors T Danchors
  refine RN.okX D.F screplace_script (fun vs H Q E h => ?_) (fun cdv A outer s H vs Q E hr h => ?_)
  · obtain ⟨a, b, es, fs, rfl, _⟩ := h
    rfl
  · obtain ⟨a, b, es, fs, rfl, rp, hc⟩ := h
    refine ⟨_, (pss_cons (ps_set (i := 2) screplace_script.nd rfl (.inl rfl) (pe_callS Gunanchored hr (by rfl) Dunanchored.g Dunanchored.F.kp Dunanchored.b (fun σ => L2N.passAt (L2N.takes_of rfl rfl rfl rfl) σ) (pa_cons (pv 0) (pa_cons (pv 1) pa_nil))))
    (pss_cons (ps_if (pt_truQ (pv 2) (by intro _; rfl)) (pss_one (RN.ps_raiseQ rfl (L2N.takes_of rfl rfl rfl rfl) (RN.pmk_oex ET_NotAnchored.ox ET_NotAnchored.iC ET_NotAnchored.tI GI_NotAnchored (hr.mono (by decide)) bE_NotAnchored .nil pass0 (by rfl) ET_NotAnchored.gC (pa_cons (pe_ix (r := rIxT K) ix_tup (pv 2) pe_int (fun _ _ => rfl)) pa_nil)))) pss_nil)
    (pss_one (ps_ret (pe_lc (own := [("block", 3), ("anchor", 4)]) (g := gTup K 2 (gCons (gName 3) (gCons (gName 4) gNil))) (tt := _) rfl screplace_script.nd (Rv.pi_enT (by rfl) T.b_enumerate (pa_cons (pe_callS Ganchors (hr.mono (by decide)) (by rfl) Danchors.g Danchors.F.kp Danchors.b (fun σ => L2N.passAt (L2N.takes_of rfl rfl rfl rfl) σ) (pa_cons (pv 0) (pa_cons (pv 1) pa_nil))) pa_nil))
      (blkOk_by (own := [("block", 3), ("anchor", 4)]) (N := ["before", "after", "loose", "block", "anchor"]) (sc := defScope sreplace_script) (by decide +kernel)) (fun _ _ _ _ _ => (pg_tup rfl (pgs_cons (pg_name (i := 3) screplace_script.nd rfl (.inl rfl)) (pgs_cons (pg_name (i := 4) screplace_script.nd rfl (.inl rfl)) pgs_nil)))) (fun _ _ _ _ _ => pts_one (pt_cmpR op_ne (pe_ix (r := rIxT K) ix_tup (pv 0) (pv 3) (fun _ _ => rfl)) (pe_ix (r := rIxT K) ix_tup (pv 1) (pv 3) (fun _ _ => rfl)) (nomark _)))
      (fun _ _ _ _ _ => (pe_call G_write (hr.mono (by decide)) (by rfl) D_write.g D_write.F.kp D_write.b .nil pass0 (pa_cons (pv 3) (pa_cons (pv 4) pa_nil))))))))), ?_⟩
    walk_at "rx"
    refine ⟨a, b, es, fs, rfl, rp, fun H1 lo os S1 nlo hlo asc => ?_⟩
    walk_at "rx"
    refine rd_truTv rfl hlo ?_
    rcases hc with ⟨l0, ee, q⟩ | ⟨x, r, asc2, q⟩
    · have o0 : os = [] := by
        cases os with
        | nil => rfl
        | cons x r =>
          have := (asc.2 x).mp (List.mem_cons_self ..)
          rw [l0] at this
          exact absurd this List.not_mem_nil
      subst o0
      show if false = true then _ else _
      have r1 := rp.same S1
      walk_at "rx"
      refine ⟨a, b, es, fs, rfl, r1, fun H2 ad S2 nad had => ?_⟩
      have r2 := r1.same S2
      have f12 := r2.ib.2.1
      have ha2 := r2.ta
      have hb2 := r2.tb
      have la : (anL es fs).length = fs.length := List.length_map ..
      subst ee
      walk_at "rx"
      refine lc_acc2 walk_jen (fun i acc H' => acc = []) rfl (fun i acc Ha Hb kt p => p) (fun i acc Ha hi p => by
          subst p
          decide) (fun H' S => S _ _ had) ?_ ?_
      · rintro i x Ha Hb acc Qc R hi Sa rfl ⟨t, u, w, rfl, nT, rfl, e1, e2⟩ qc rc
        cases e1
        have hi2 : i < es.length := by rw [List.length_map, la] at hi; exact hi
        have e3 : ((anL es es).map V.int)[i]? = some w := e2
        have e4 : ((anL es es).map V.int)[i]? = some (.int (an es es (es.getD i 0))) := by
          unfold anL
          rw [List.getElem?_map, List.getElem?_map, List.getElem?_eq_getElem hi2, getD_get hi2]
          rfl
        rw [e4] at e3
        cases e3
        have S4 := same_new (o := .tup [.int (i : Nat), V.int (an es es (es.getD i 0))]) (Same.refl Ha) nT
        have r4 := r2.same (Sa.trans S4)
        have ha4 := r4.ta
        have hb4 := r4.tb
        have ae : atI (es.map V.int) (i : Int) = some (.int (es.getD i 0)) := atI_ints (by omega) (by omega)
        walk_at "rx"
        refine ⟨rfl, ?_⟩
        walk_at "rx"
        rw [decide_eq_true (show V.int (es.getD i 0) = V.int (es.getD i 0) from rfl)]
        walk_at "rx"
        exact rc _ S4 rfl
      · intro H3 D acc S3 nD hD e
        rw [e] at hD
        exact q H3 D ((S1.trans S2).trans S3) hD
    · have eo := asc.uniq asc2
      subst eo
      show if true = true then _ else _
      have a0 : atI ((x :: r).map V.int) (0 : Int) = some (.int x) := by
        have z := atI_nat (xs := (x :: r).map V.int) (j := 0) (v := V.int x) rfl
        exact z
      walk_at "rx"
      exact mkErr fun H8 d S8 hd => q H8 d (S1.trans S8) hd
def sp_law_anchored (_K : PySem.W.Frag) : Sp := fun vs H Q _ => ∃ (a b m : Addr) (es fs ms : List Int), vs = [.ref a, .ref b, .ref m] ∧ RP H a b es fs ∧ H m = some (.lst (ms.map V.int)) ∧ ms.Perm (mvA es fs es.length) ∧ ms.Pairwise (· ≤ ·) ∧ ∀ H', Same H H' → Q (.bl true) H'
set_option maxHeartbeats 4000000 in
theorem ok_law_anchored (T : Top K mg) {f : Addr} {fd : FuncData} (D : Def K mg "_law_anchored" s_law_anchored ["before", "after", "moved"] f fd) : FnOk P w K mg base CX0 8 f fd ["before", "after", "moved"] (sp_law_anchored K) := by
  obtain ⟨fE_NotAnchored, fdE_NotAnchored, ET_NotAnchored, FE_NotAnchored, bE_NotAnchored⟩ := T.e_NotAnchored
  have GI_NotAnchored := okInit_NotAnchored (P := P) (w := w) (base := base) ET_NotAnchored FE_NotAnchored
  obtain ⟨funanchored, fdunanchored, Dunanchored⟩ := T.d_unanchored
  have Gunanchored : FnOk P w K mg base (L2N.CX P w) 6 funanchored fdunanchored ["before", "after"] (spunanchored K) := okunanchored T Dunanchored
  obtain ⟨fanchors, fdanchors, Danchors⟩ := T.d_anchors
  have Ganchors : FnOk P w K mg base (L2N.CX P w) 5 fanchors fdanchors ["before", "after"] (spanchors K) := okanchors T Danchors
  obtain ⟨freplace_script, fdreplace_script, Dreplace_script⟩ := T.d_replace_script
  have Greplace_script : FnOk P w K mg base (L2N.CX P w) 7 freplace_script fdreplace_script ["before", "after"] (spreplace_script K) := okreplace_script T Dreplace_script
  obtain ⟨f_law_row, fd_law_row, D_law_row⟩ := T.d__law_row
  have G_law_row : FnOk P w K mg base CX0 2 f_law_row fd_law_row ["told"] (sp_law_row K) := ok_law_row T D_law_row
  have GQ_law_row : L2H.FnH P w K mg base CX0 2 f_law_row fd_law_row ["told"] (sp_law_row K) := okQ_law_row T D_law_row
  obtain ⟨f_law_whole, fd_law_whole, D_law_whole⟩ := T.d__law_whole
  have G_law_whole : FnOk P w K mg base CX0 1 f_law_whole fd_law_whole ["told"] (sp_law_whole K) := ok_law_whole T D_law_whole
  have GQ_law_whole : L2H.FnH P w K mg base CX0 1 f_law_whole fd_law_whole ["told"] (sp_law_whole K) := okQ_law_whole T D_law_whole
  refine D.F.ok sc_law_anchored (fun vs H Q E h => ?_) (fun cdv A outer s H vs Q E hr h => ?_)
  · obtain ⟨a, b, m, es, fs, ms, rfl, _⟩ := h
    rfl
  · obtain ⟨a, b, m, es, fs, ms, rfl, r, hm, pm, pw, q⟩ := h
    have R := r.rn
    have J := r.ib.2.2
    have e12 := r.ia.2.1
    have asc := mv_asc R J pm pw
    have hr1 : -100000 ≤ ((es.length : Nat) : Int) ∧ ((es.length : Nat) : Int) ≤ 100000 := by omega
    refine ⟨_, (pss_cons (ps_set (i := 3) sc_law_anchored.nd rfl (.inl rfl) (pe_call Gunanchored (hr.mono (by decide)) (by rfl) Dunanchored.g Dunanchored.F.kp Dunanchored.b .nil RN.passL (pa_cons (pv 0) (pa_cons (pv 1) pa_nil))))
    (pss_cons (ps_set (i := 4) sc_law_anchored.nd rfl (.inr rfl) (pe_lc (own := [("k", 10)]) (g := gName 10) (tt := tYes) rfl sc_law_anchored.nd (pi_range1 (by rfl) T.b_range (pa_cons (pe_callB (r := rLenQ K) call_lenQ (by rfl) T.b_len PySem.boot_len (pa_cons (pv 0) pa_nil)) pa_nil))
      (blkOk_by (own := [("k", 10)]) (N := ["before", "after", "moved", "told", "spots", "due", "found", "refused", "lines", "raised", "k"]) (sc := defScope s_law_anchored) (by decide +kernel)) (fun _ _ _ _ _ => (pg_name (i := 10) sc_law_anchored.nd rfl (.inl rfl))) (fun _ _ _ _ _ => pts_nil)
      (fun _ _ _ _ _ => (pe_ifExp (pt_cmpR op_eq (pe_ix (r := rIxT K) ix_tup (pv 0) (pv 10) (fun _ _ => rfl)) (pe_ix (r := rIxT K) ix_tup (pv 1) (pv 10) (fun _ _ => rfl)) (nomark _)) (pv 10) (pe_un un_neg pe_int)))))
    (pss_cons (ps_set (i := 5) sc_law_anchored.nd rfl (.inl rfl) (pe_callTy (r := rTupQ K) call_tupQ (by rfl) T.b_tuple (by decide +kernel) (pa_cons (pe_lc (own := [("k", 10)]) (g := gName 10) (tt := tYes) rfl sc_law_anchored.nd (pi_range1 (by rfl) T.b_range (pa_cons (pe_callB (r := rLenQ K) call_lenQ (by rfl) T.b_len PySem.boot_len (pa_cons (pv 0) pa_nil)) pa_nil))
      (blkOk_by (own := [("k", 10)]) (N := ["before", "after", "moved", "told", "spots", "due", "found", "refused", "lines", "raised", "k"]) (sc := defScope s_law_anchored) (by decide +kernel)) (fun _ _ _ _ _ => (pg_name (i := 10) sc_law_anchored.nd rfl (.inl rfl))) (fun _ _ _ _ _ => pts_nil)
      (fun _ _ _ _ _ => (pe_ifExp (pt_cmpR op_ne (pe_ix (r := rIxT K) ix_tup (pv 0) (pv 10) (fun _ _ => rfl)) (pe_un un_neg pe_int) (nomark _)) (pe_ix (r := rIxL K) ix_list (pv 4) (pv 10) (fun _ _ => rfl)) (pe_un un_neg pe_int)))) pa_nil)))
    (pss_cons (ps_set (i := 6) sc_law_anchored.nd rfl (.inl rfl) (pe_call Ganchors (hr.mono (by decide)) (by rfl) Danchors.g Danchors.F.kp Danchors.b .nil RN.passL (pa_cons (pv 0) (pa_cons (pv 1) pa_nil))))
    (pss_cons (ps_if (PW.pt (pw_or (pt_not (pt_val (pe_call G_law_row (hr.mono (by decide)) (by rfl) D_law_row.g D_law_row.F.kp D_law_row.b .nil pass0 (pa_cons (pv 3) pa_nil)))) (pw_or (pt_cmpR (op_neD hr.units) (pv 3) (pe_callTy (r := rTupQ K) call_tupQ (by rfl) T.b_tuple (by decide +kernel) (pa_cons (pv 2) pa_nil)) (nomark _)) (pw_or (pt_not (pt_val (pe_call G_law_row (hr.mono (by decide)) (by rfl) D_law_row.g D_law_row.F.kp D_law_row.b .nil pass0 (pa_cons (pv 6) pa_nil)))) (pw_or1 (pt_cmpR (op_neD hr.units) (pv 6) (pv 5) (nomark _))))))) (pss_one (ps_ret pe_bl)) pss_nil)
    (pss_cons (ps_set (i := 7) sc_law_anchored.nd rfl (.inl rfl) pe_bl)
    (pss_cons (ps_set (i := 8) sc_law_anchored.nd rfl (.inl rfl) pe_non)
    (pss_cons (RN.ps_tryM [(.ref (atTop K "NotAnchored"), 9, _)] (_) rfl rfl sc_law_anchored.nd (fun W pn xe tk => (pss_one (ps_set (i := 8) sc_law_anchored.nd rfl (.inl rfl) (pe_callS Greplace_script hr (by rfl) Dreplace_script.g Dreplace_script.F.kp Dreplace_script.b (fun σ => L2N.passAt tk σ) (pa_cons (pv 0) (pa_cons (pv 1) pa_nil)))))) (.cons ⟨rfl, by decide, .inl ET_NotAnchored.gC⟩ rfl rfl (fun a oe cls d pn hz hf => (pss_one (ps_set (i := 7) sc_law_anchored.nd rfl (.inl rfl) (pe_and (pe_cmpR (r := rNeD K) (op_neD (unitsQ hr _)) (pv 2) (pe_lst pa_nil) (nomark _)) (pe_and (L2H.pe_callH GQ_law_whole (roomQ hr (by decide) _) (RN.suiteC hz hf) (by rfl) D_law_whole.g D_law_whole.F.kp D_law_whole.b RN.at0 (pa_cons (pe_xf ET_NotAnchored.xf ET_NotAnchored.noN hz.zc hf (pv 9)) pa_nil)) (pe_one (pe_cmpR op_eq (pe_xf ET_NotAnchored.xf ET_NotAnchored.noN hz.zc hf (pv 9)) (pe_ix (r := rIxL K) ix_list (pv 2) pe_int (fun _ _ => rfl)) (nomark _)))))))) .nil))
    (pss_cons (ps_if (pt_cmpR (op_neD hr.units) (pv 2) (pe_lst pa_nil) (nomark _)) (pss_one (ps_ret (pv 7))) pss_nil)
    (pss_one (ps_ret (pe_and (pe_callB (r := rIsi K) call_isi (by rfl) T.b_isinstance (by decide +kernel) (pa_cons (pv 8) (pa_cons (pe_bltn (v := .ty "list") (by rfl) T.b_list (by decide +kernel) rfl) pa_nil))) (pe_one (pe_cmpR (op_eqD hr.units) (pv 8) (pe_lst pa_nil) (nomark _))))))))))))))), ?_⟩
    walk_at "rx"
    refine ⟨a, b, es, fs, rfl, r, fun H1 U os S1 nU hU ao => ?_⟩
    have eo := ao.uniq asc
    subst eo
    have r1 := r.same S1
    have ha1 := r1.ta
    have hb1 := r1.tb
    have hm1 := S1 _ _ hm
    walk_at "rx"
    rw [show (((es.length : Nat) : Int)).toNat = es.length by omega]
    refine lc_map walk_rng ((sptL es fs es.length).map V.int) ?_ ?_ (fun _ _ => trivial) ?_ ?_
    · rw [List.length_map, sptL_len]
    · omega
    · rintro i x Hx Hy Qc R2 hi Sx ⟨rfl, rfl⟩ qc
      have ha2 := ha1.same Sx
      have hb2 := hb1.same Sx
      have ae : atI (es.map V.int) (i : Int) = some (.int (es.getD i 0)) := atI_ints (by omega) (by omega)
      have af : atI (fs.map V.int) (i : Int) = some (.int (fs.getD i 0)) := atI_ints (by omega) (by have := R.len; omega)
      have ei : ((sptL es fs es.length).map V.int)[i]? = some (.int (if es.getD i 0 = fs.getD i 0 then (i : Int) else -1)) := by
        unfold sptL
        rw [List.getElem?_map, List.getElem?_map, List.getElem?_range hi]
        rfl
      walk_at "rx"
      refine ⟨rfl, ?_⟩
      walk_at "rx"
      by_cases z : es.getD i 0 = fs.getD i 0
      · rw [decide_eq_true (show V.int (es.getD i 0) = V.int (fs.getD i 0) by rw [z])]
        rw [if_pos z] at ei
        walk_at "rx"
        exact qc _ _ (Same.refl _) ei
      · rw [decide_eq_false (show ¬ V.int (es.getD i 0) = V.int (fs.getD i 0) from fun w => z (V.int.inj w))]
        rw [if_neg z] at ei
        walk_at "rx"
        exact qc _ _ (Same.refl _) ei
    intro H2 SP S2 nSP hSP
    have r2 := r1.same S2
    have ha2 := r2.ta
    have hb2 := r2.tb
    walk_at "rx"
    rw [show (((es.length : Nat) : Int)).toNat = es.length by omega]
    refine lc_map walk_rng ((dueL es fs es.length).map V.int) ?_ ?_ (fun _ _ => trivial) ?_ ?_
    · rw [List.length_map]
      unfold dueL
      rw [List.length_map, List.length_range]
    · omega
    · rintro i x Hx Hy Qc R2 hi Sx ⟨rfl, rfl⟩ qc
      have ha3 := ha2.same Sx
      have hs3 := Sx _ _ hSP
      have ae : atI (es.map V.int) (i : Int) = some (.int (es.getD i 0)) := atI_ints (by omega) (by omega)
      have asx : atI ((sptL es fs es.length).map V.int) (i : Int) = some (.int (if es.getD i 0 = fs.getD i 0 then (i : Int) else -1)) := by
        refine atI_nat ?_
        unfold sptL
        rw [List.getElem?_map, List.getElem?_map, List.getElem?_range hi]
        rfl
      have ei : ((dueL es fs es.length).map V.int)[i]? = some (.int (if es.getD i 0 ≠ -1 ∧ es.getD i 0 = fs.getD i 0 then (i : Int) else -1)) := by
        unfold dueL
        rw [List.getElem?_map, List.getElem?_map, List.getElem?_range hi]
        rfl
      walk_at "rx"
      refine ⟨rfl, ?_⟩
      walk_at "rx"
      by_cases z : es.getD i 0 = -1
      · rw [decide_eq_true (show V.int (es.getD i 0) = V.int (-1) by rw [z])]
        rw [if_neg (fun w => w.1 z)] at ei
        walk_at "rx"
        exact qc _ _ (Same.refl _) ei
      · rw [decide_eq_false (show ¬ V.int (es.getD i 0) = V.int (-1) from fun w => z (V.int.inj w))]
        walk_at "rx"
        by_cases y : es.getD i 0 = fs.getD i 0
        · rw [if_pos ⟨z, y⟩] at ei
          rw [if_pos y]
          exact qc _ _ (Same.refl _) ei
        · rw [if_neg (fun w => y w.2)] at ei
          rw [if_neg y]
          exact qc _ _ (Same.refl _) ei
    intro H3 DL S3 nDL hDL
    walk_at "rx"
    refine rd_newL fun H4 DT S4 nDT hDT => ?_
    have r4 := (r2.same S3).same S4
    walk_at "rx"
    refine ⟨a, b, es, fs, rfl, r4, fun H5 F S5 nF hF => ?_⟩
    rw [anL_due R J] at hF
    have S25 := (S3.trans S4).trans S5
    have S15 := S2.trans S25
    have hU5 := S15 _ _ hU
    have hm5 := S15 _ _ hm1
    walk_at "rx"
    refine ⟨U, os, rfl, hU5, ?_⟩
    walk_at "rx"
    refine rd_newL fun H6 TM S6 nTM hTM => ?_
    refine rd_neI (TG.of (S6 _ _ hU5)) (TG.of hTM) ?_
    rw [decide_eq_true rfl]
    walk_at "rx"
    refine ⟨F, _, rfl, S6 _ _ hF, ?_⟩
    walk_at "rx"
    refine rd_neI (TG.of (S6 _ _ hF)) (TG.of (S6 _ _ (S5 _ _ hDT))) ?_
    rw [decide_eq_true rfl]
    have S16 := S15.trans S6
    have r6 := r1.same S16
    have hm6 := S6 _ _ hm5
    walk_at "rx"
    cases os with
    | nil =>
      have lo : looseL es fs = [] := List.eq_nil_iff_forall_not_mem.mpr fun x hx => List.not_mem_nil ((asc.2 x).mpr hx)
      have m0 : mvA es fs es.length = [] := List.length_eq_zero_iff.mp pm.length_eq.symm
      refine ⟨a, b, es, fs, rfl, r6, .inl ⟨lo, mv_nil R m0, fun H7 L S7 hL => ?_⟩⟩
      have hm7 := S7 _ _ hm6
      walk_at "rx"
      refine rd_newQ (by simp) fun H8 N8 S8 n8 h8 => ?_
      refine rd_neNil (ns := []) (S8 _ _ hm7) h8 ?_
      rw [decide_eq_true rfl]
      have hL8 := S8 _ _ hL
      walk_at "rx"
      refine rd_newQ (by simp) fun H9 N9 S9 n9 h9 => ?_
      refine rd_eqd (d := .list []) (.lst (SqL.of (S9 _ _ hL8)) .nil) (.lst (SqL.of h9) .nil) (Sh.list (k := 0) fun d hd => by cases hd) (by decide) ?_
      exact q _ ((((S1.trans S16).trans S7).trans S8).trans S9)
    | cons x rr =>
      refine ⟨a, b, es, fs, rfl, r6, .inr ⟨x, rr, asc, fun H7 d S7 hd => ?_⟩⟩
      have hm7 := S7 _ _ hm6
      have a0 : atI ((x :: rr).map V.int) (0 : Int) = some (.int x) := atI_nat (xs := (x :: rr).map V.int) (j := 0) (v := V.int x) rfl
      refine ⟨true, T.x_NotAnchored_NotAnchored, iteT fun a0' na => ?_⟩
      walk_at "rx"
      refine rd_newQ (by simp) fun H8 N8 S8 n8 h8 => ?_
      refine rd_neNil (ns := x :: rr) (S8 _ _ hm7) h8 ?_
      rw [decide_eq_false (by simp)]
      have hd8 := S8 _ _ hd
      have hm8 := S8 _ _ hm7
      walk_at "rx"
      refine ⟨rfl, rfl, d, _, .int x, rfl, hd8, by simp [List.lookup], ?_⟩
      walk_at "rx"
      refine ⟨x, rfl, ?_⟩
      walk_at "rx"
      refine ⟨rfl, rfl, d, _, .int x, rfl, hd8, by simp [List.lookup], ?_⟩
      walk_at "rx"
      rw [decide_eq_true (show V.int x = V.int x from rfl)]
      walk_at "rx"
      unfold clr
      dsimp only
      walk_at "rx"
      refine rd_newQ (by simp) fun H9 N9 S9 n9 h9 => ?_
      refine rd_neNil (ns := x :: rr) (S9 _ _ hm8) h9 ?_
      rw [decide_eq_false (by simp)]
      walk_at "rx"
      exact q _ ((((S1.trans S16).trans S7).trans S8).trans S9)
def sp_are_rings (K : PySem.W.Frag) : Sp := fun vs H Q _ => ∃ (a b u : Addr) (bs : List Addr) (es fs : List Int), vs = [.ref a, .ref b, .ref u] ∧ RP H a b es fs ∧ H u = some (.tup (bs.map V.ref)) ∧ NRows H bs (rngs es fs) ∧ rngs es fs ≠ [] ∧ ∀ H', Same H H' → Q (.bl true) H'
set_option maxHeartbeats 4000000 in
theorem ok_are_rings (T : Top K mg) {f : Addr} {fd : FuncData} (D : Def K mg "_are_rings" s_are_rings ["before", "after", "told"] f fd) : FnOk P w K mg base CX0 7 f fd ["before", "after", "told"] (sp_are_rings K) := by
  obtain ⟨frings, fdrings, Drings⟩ := T.d_rings
  have Grings : FnOk P w K mg base (L2N.CX P w) 6 frings fdrings ["before", "after"] (springs K) := okrings T Drings
  refine D.F.ok sc_are_rings (fun vs H Q E h => ?_) (fun cdv A outer s H vs Q E hr h => ?_)
  · obtain ⟨a, b, u, bs, es, fs, rfl, _⟩ := h
    rfl
  · obtain ⟨a, b, u, bs, es, fs, rfl, r, hu, tu, ne, q⟩ := h
    have lb := NRows.len tu
    have few := rngs_few (es := es) (fs := fs)
    have e12 := r.ia.2.1
    have pos : 0 < (rngs es fs).length := List.length_pos_iff.mpr ne
    refine ⟨_, (pss_cons (ps_if (PW.pt (pw_or (pt_not (pt_val (pe_callB (r := rIsi K) call_isi (by rfl) T.b_isinstance (by decide +kernel) (pa_cons (pv 2) (pa_cons (pe_bltn (v := .ty "tuple") (by rfl) T.b_tuple (by decide +kernel) rfl) pa_nil))))) (pw_or1 (pt_cmpR op_eq (pe_callB (r := rLenQ K) call_lenQ (by rfl) T.b_len PySem.boot_len (pa_cons (pv 2) pa_nil)) pe_int (nomark _))))) (pss_one (ps_ret pe_bl)) pss_nil)
    (pss_cons (ps_set (i := 3) sc_are_rings.nd rfl (.inr rfl) (pe_call Grings hr (by rfl) Drings.g Drings.F.kp Drings.b .nil RN.passL (pa_cons (pv 0) (pa_cons (pv 1) pa_nil))))
    (pss_one (ps_ret (pe_callB (r := rAll K) (cr_all rfl) (by rfl) T.b_all (by decide +kernel) (pa_cons (pe_lc (own := [("ring", 4)]) (g := gName 4) (tt := tYes) rfl sc_are_rings.nd (pi_tup (pv 2))
      (blkOk_by (own := [("ring", 4)]) (N := ["before", "after", "told", "turned", "ring"]) (sc := defScope s_are_rings) (by decide +kernel)) (fun _ _ _ _ _ => (pg_name (i := 4) sc_are_rings.nd rfl (.inl rfl))) (fun _ _ _ _ _ => pts_nil)
      (fun _ _ _ _ _ => (pe_cmpR (r := rInD K) (op_inD (units65w hr)) (pv 4) (pv 3) (by rfl)))) pa_nil)))))), ?_⟩
    walk_at "rx"
    rw [decide_eq_false (show ¬ V.int (((bs.map V.ref).length : Nat) : Int) = V.int 0 from fun w => by have := V.int.inj w; rw [List.length_map] at this; omega)]
    walk_at "rx"
    refine ⟨_, _, rfl, .inl ⟨a, b, es, fs, rfl, rfl, r, fun H1 T cs S1 hT tT nT => ?_⟩⟩
    have tT : NRows H1 cs (rngs es fs) := tT
    have hu1 := S1 _ _ hu
    have tu1 := NRows.same tu S1
    walk_at "rx"
    refine lc_map (walk_tup (xs := bs.map V.ref)) ((bs.map fun _ => true).map V.bl) ?_ ?_ (fun H' S => SqT.of (S _ _ hu1)) ?_ ?_
    · rw [List.length_map, List.length_map, List.length_map]
    · rw [List.length_map]; omega
    · rintro i x H2 H3 Qc R hi S ⟨rfl, ex⟩ qc
      rw [List.length_map] at hi
      have eb : bs[i]? = some bs[i] := List.getElem?_eq_getElem hi
      rw [List.getElem?_map, eb] at ex
      cases ex
      obtain ⟨p, e1, e2⟩ := NRows.get (NRows.same tu1 S) eb
      have hT2 := S _ _ hT
      have tT2 := NRows.same tT S
      walk_at "rx"
      refine ⟨rfl, ?_⟩
      walk_at "rx"
      refine rd_inR e2 hT2 tT2 ?_
      rw [decide_eq_true (List.mem_of_getElem? e1)]
      exact qc _ _ (Same.refl _) (by rw [List.getElem?_map, List.getElem?_map, eb]; rfl)
    intro H2 D S2 nD hD
    walk_at "rx"
    refine rd_all hD ?_
    rw [show (bs.map fun _ => true).all id = true from List.all_eq_true.mpr fun x hx => by obtain ⟨_, _, rfl⟩ := List.mem_map.mp hx; rfl]
    walk_at "rx"
    exact q _ (S1.trans S2)
def spjudge_obstacle (K : PySem.W.Frag) : Sp := fun vs H Q _ => ∃ (a b p : Addr) (es fs : List Int) (k : Nat), vs = [.ref a, .ref b, .ref p] ∧ RP H a b es fs ∧ RsnAt H p k es fs ∧ (k = 3 → vdt es fs = 3) ∧ ∀ H', Same H H' → Q (.bl (jv k es fs)) H'
set_option maxHeartbeats 4000000 in
theorem okjudge_obstacle (T : Top K mg) {f : Addr} {fd : FuncData} (D : Def K mg "judge_obstacle" sjudge_obstacle ["before", "after", "reason"] f fd) : FnOk P w K mg base CX0 8 f fd ["before", "after", "reason"] (spjudge_obstacle K) := by
  obtain ⟨fcheck_renaming, fdcheck_renaming, Dcheck_renaming⟩ := T.d_check_renaming
  have Gcheck_renaming : FnOk P w K mg base (L2N.CX P w) 4 fcheck_renaming fdcheck_renaming ["before", "after"] (spcheck_renaming K) := okcheck_renaming T Dcheck_renaming
  obtain ⟨f_is_of_one_kind, fd_is_of_one_kind, D_is_of_one_kind⟩ := T.d__is_of_one_kind
  have G_is_of_one_kind : FnOk P w K mg base CX0 5 f_is_of_one_kind fd_is_of_one_kind ["image"] (sp_is_of_one_kind K) := ok_is_of_one_kind T D_is_of_one_kind
  obtain ⟨flook, fdlook, Dlook⟩ := T.d_look
  have Glook : FnOk P w K mg base CX0 4 flook fdlook ["image"] (splook K) := oklook T Dlook
  obtain ⟨f_are_rings, fd_are_rings, D_are_rings⟩ := T.d__are_rings
  have G_are_rings : FnOk P w K mg base CX0 7 f_are_rings fd_are_rings ["before", "after", "told"] (sp_are_rings K) := ok_are_rings T D_are_rings
  refine D.F.ok scjudge_obstacle (fun vs H Q E h => ?_) (fun cdv A outer s H vs Q E hr h => ?_)
  · obtain ⟨a, b, p, es, fs, k, rfl, _⟩ := h
    rfl
  · obtain ⟨a, b, p, es, fs, k, rfl, r, hp, h3, q⟩ := h
    refine ⟨_, (pss_cons (ps_expr (pe_call Gcheck_renaming (hr.mono (by decide)) (by rfl) Dcheck_renaming.g Dcheck_renaming.F.kp Dcheck_renaming.b .nil RN.passL (pa_cons (pv 0) (pa_cons (pv 1) pa_nil))))
    (pss_cons (ps_if (PW.pt (pw_or (pt_cmpR (op_eqD hr.units) (pv 0) (pv 1) (nomark _)) (pw_or1 (pt_cmpR op_isNQ (pv 2) pe_non (nomark _))))) (pss_one (ps_ret pe_bl)) pss_nil)
    (pss_cons (ps_if (pt_cmpR (op_eqD hr.units) (pv 2) (pe_tup (pa_cons pe_str pa_nil)) (nomark _)) (pss_one (ps_ret (pe_cmpR (r := rIn K true) op_notIn_seq (Rv.pe_k (by rfl) T.k_EMPTY) (pv 0) (by rfl)))) pss_nil)
    (pss_cons (ps_if (pt_cmpR (op_eqD hr.units) (pv 2) (pe_tup (pa_cons pe_str pa_nil)) (nomark _)) (pss_one (ps_ret (pe_cmpR op_eq (pe_call Glook (hr.mono (by decide)) (by rfl) Dlook.g Dlook.F.kp Dlook.b .nil pass0 (pa_cons (pv 0) pa_nil)) (pe_call Glook (hr.mono (by decide)) (by rfl) Dlook.g Dlook.F.kp Dlook.b .nil pass0 (pa_cons (pv 1) pa_nil)) (nomark _)))) pss_nil)
    (pss_cons (ps_if (PW.pt (pw_or (pt_cmpR op_ne (pe_callB (r := rLenQ K) call_lenQ (by rfl) T.b_len PySem.boot_len (pa_cons (pv 2) pa_nil)) pe_int (nomark _)) (pw_or (pt_cmpR op_ne (pe_ix (r := rIxT K) ix_tup (pv 2) pe_int (fun _ _ => rfl)) pe_str (nomark _)) (pw_or1 (pt_not (pt_val (pe_call G_are_rings hr (by rfl) D_are_rings.g D_are_rings.F.kp D_are_rings.b .nil pass0 (pa_cons (pv 0) (pa_cons (pv 1) (pa_cons (pe_ix (r := rIxT K) ix_tup (pv 2) pe_int (fun _ _ => rfl)) pa_nil)))))))))) (pss_one (ps_ret pe_bl)) pss_nil)
    (pss_one (ps_ret (pe_and (pe_cmpR op_eq (pe_tcnt hr.units (pv 0) (Rv.pe_k (by rfl) T.k_EMPTY)) pe_int (nomark _)) (pe_one (pe_call G_is_of_one_kind (hr.mono (by decide)) (by rfl) D_is_of_one_kind.g D_is_of_one_kind.F.kp D_is_of_one_kind.b .nil pass0 (pa_cons (pv 0) pa_nil))))))))))), ?_⟩
    walk_at "rx"
    refine ⟨.ref a, .ref b, rfl, .inl ⟨a, b, es, fs, rfl, rfl, r, fun H1 S1 => ?_⟩⟩
    have r1 := r.same S1
    have hp1 := hp.same S1
    walk_at "rx"
    refine rd_eqI r1.ta r1.tb ?_
    by_cases e0 : es = fs
    · rw [decide_eq_true e0]
      have j0 : jv k es fs = false := by unfold jv; rw [decide_eq_false (fun w => w e0)]; rfl
      rw [j0] at q
      walk_at "rx"
      exact q _ S1
    rw [decide_eq_false e0]
    have j1 : jv k es fs = if k = 1 then decide (-1 ∉ es) else if k = 2 then decide (codes es = codes fs) else true := by unfold jv; rw [decide_eq_true e0]; rfl
    rw [j1] at q
    walk_at "rx"
    rw [decide_eq_false (show ¬ V.ref p = V.non from fun w => by cases w)]
    walk_at "rx"
    refine rd_newQ (by simp) fun H2 t S2 nt ht => ?_
    have r2 := r1.same S2
    have hp2 := hp1.same S2
    walk_at "rx"
    refine rd_eqFull hp2 ht ?_
    by_cases c1 : k = 1
    · rw [decide_eq_true c1]
      rw [if_pos c1] at q
      walk_at "rx"
      refine rd_ninO r2.ta rfl ?_
      rw [inV_ints]
      have e : (!decide (-1 ∈ es)) = decide (-1 ∉ es) := by
        by_cases z : -1 ∈ es
        · rw [decide_eq_true z, decide_eq_false (fun w => w z)]; rfl
        · rw [decide_eq_false z, decide_eq_true z]; rfl
      rw [e]
      exact q _ (S1.trans S2)
    rw [decide_eq_false c1]
    rw [if_neg c1] at q
    walk_at "rx"
    refine rd_newQ (by simp) fun H3 t3 S3 nt3 ht3 => ?_
    have r3 := r2.same S3
    have hp3 := hp2.same S3
    have S13 := (S1.trans S2).trans S3
    walk_at "rx"
    refine rd_eqAlike hp3 ht3 ?_
    by_cases c2 : k = 2
    · rw [decide_eq_true c2]
      rw [if_pos c2] at q
      walk_at "rx"
      refine ⟨a, es, rfl, r3.ta, r3.ia, fun H4 S4 => ?_⟩
      have r4 := r3.same S4
      walk_at "rx"
      refine ⟨b, fs, rfl, r4.tb, r4.ib, fun H5 S5 => ?_⟩
      walk_at "rx"
      rw [show decide (V.str (txt (codes es)) = V.str (txt (codes fs))) = decide (codes es = codes fs) from decide_eq_decide.mpr ⟨fun w => txt_inj (V.str.inj w), fun w => by rw [w]⟩]
      exact q _ ((S13.trans S4).trans S5)
    rw [decide_eq_false c2]
    rw [if_neg c2] at q
    rcases hp3 with ⟨e, _⟩ | ⟨e, _⟩ | ⟨e, u, bs, hp3, hu, tu⟩
    · exact absurd e c1
    · exact absurd e c2
    obtain ⟨⟨n1, n2⟩, mo⟩ := vdt3 (h3 e)
    walk_at "rx"
    rw [decide_eq_true (show V.int (([V.str sRings, V.ref u].length : Nat) : Int) = V.int 2 from rfl)]
    walk_at "rx"
    rw [decide_eq_true (show V.str sRings = V.str (Str.ofString "rings") from rfl)]
    walk_at "rx"
    refine ⟨a, b, u, bs, es, fs, rfl, r3, hu, tu, n2, fun H4 S4 => ?_⟩
    have r4 := r3.same S4
    walk_at "rx"
    refine rd_tcC rfl r4.ga ?_
    walk_at "rx"
    rw [decide_eq_true (show V.int ((es.count (-1) : Nat) : Int) = V.int 1 by rw [n1]; rfl)]
    walk_at "rx"
    refine ⟨a, es, rfl, r4.ta, r4.ia, fun H5 S5 => ?_⟩
    walk_at "rx"
    rw [decide_eq_true mo]
    exact q _ ((S13.trans S4).trans S5)
def sp_law_judged (_K : PySem.W.Frag) : Sp := fun vs H Q _ => ∃ (a b : Addr) (due : V) (es fs : List Int), vs = [.ref a, .ref b, due] ∧ RP H a b es fs ∧ ((vdt es fs = 0 ∧ due = .non) ∨ (∃ d, due = .ref d ∧ vdt es fs ≠ 0 ∧ DuAt H d (vdt es fs) es fs)) ∧ ∀ H', Same H H' → Q (.bl true) H'
set_option maxHeartbeats 4000000 in
theorem ok_law_judged (T : Top K mg) {f : Addr} {fd : FuncData} (D : Def K mg "_law_judged" s_law_judged ["before", "after", "due"] f fd) : FnOk P w K mg base CX0 9 f fd ["before", "after", "due"] (sp_law_judged K) := by
  obtain ⟨fjudge_obstacle, fdjudge_obstacle, Djudge_obstacle⟩ := T.d_judge_obstacle
  have Gjudge_obstacle : FnOk P w K mg base CX0 8 fjudge_obstacle fdjudge_obstacle ["before", "after", "reason"] (spjudge_obstacle K) := okjudge_obstacle T Djudge_obstacle
  obtain ⟨f_law_view, fd_law_view, D_law_view⟩ := T.d__law_view
  have G_law_view : FnOk P w K mg base CX0 1 f_law_view fd_law_view ["held"] (sp_law_view K) := ok_law_view T D_law_view
  refine D.F.ok sc_law_judged (fun vs H Q E h => ?_) (fun cdv A outer s H vs Q E hr h => ?_)
  · obtain ⟨a, b, due, es, fs, rfl, _⟩ := h
    rfl
  · obtain ⟨a, b, due, es, fs, rfl, r, hd, q⟩ := h
    have R := r.rn
    have e12 := r.ia.2.1
    refine ⟨_, (pss_cons (ps_set (i := 3) sc_law_judged.nd rfl (.inl rfl) (pe_lst (pa_cons (pe_tup (pa_cons pe_str pa_nil)) (pa_cons (pe_tup (pa_cons pe_str pa_nil)) pa_nil))))
    (pss_cons (ps_set (i := 4) sc_law_judged.nd rfl (.inl rfl) (pe_lst (pa_cons (pe_and (pe_cmpR (op_neD hr.units) (pv 0) (pv 1) (nomark _)) (pe_one (pe_cmpR (r := rIn K true) op_notIn_seq (pe_un un_neg pe_int) (pv 0) (by rfl)))) (pa_cons (pe_and (pe_cmpR (op_neD hr.units) (pv 0) (pv 1) (nomark _)) (pe_one (pe_cmpR op_eq (pe_call G_law_view (hr.mono (by decide)) (by rfl) D_law_view.g D_law_view.F.kp D_law_view.b .nil pass0 (pa_cons (pv 0) pa_nil)) (pe_call G_law_view (hr.mono (by decide)) (by rfl) D_law_view.g D_law_view.F.kp D_law_view.b .nil pass0 (pa_cons (pv 1) pa_nil)) (nomark _)))) pa_nil))))
    (pss_cons (ps_for PassesOwn.never rfl (pi_range1 (by rfl) T.b_range (pa_cons pe_int pa_nil)) (pg_name (i := 5) sc_law_judged.nd rfl (.inl rfl)) (pss_cons (ps_set (i := 6) sc_law_judged.nd rfl (.inl rfl) (pe_call Gjudge_obstacle hr (by rfl) Djudge_obstacle.g Djudge_obstacle.F.kp Djudge_obstacle.b .nil pass0 (pa_cons (pv 0) (pa_cons (pv 1) (pa_cons (pe_ix (r := rIxL K) ix_list (pv 3) (pv 5) (fun _ _ => rfl)) pa_nil)))))
    (pss_one (ps_if (PW.pt (pw_or (pt_not (pt_val (pe_callB (r := rIsi K) call_isi (by rfl) T.b_isinstance (by decide +kernel) (pa_cons (pv 6) (pa_cons (pe_bltn (v := .ty "bool") (by rfl) T.b_bool (by decide +kernel) rfl) pa_nil))))) (pw_or1 (pt_cmpR op_ne (pv 6) (pe_ix (r := rIxL K) ix_list (pv 4) (pv 5) (fun _ _ => rfl)) (nomark _))))) (pss_one (ps_ret pe_bl)) pss_nil))))
    (pss_cons (ps_if (PW.pt (pw_or (pt_cmpR op_isNQ (pv 2) pe_non (nomark _)) (pw_or1 (pt_cmpR op_ne (pe_ix (r := rIxT K) ix_tup (pv 2) pe_int (fun _ _ => rfl)) pe_str (nomark _))))) (pss_one (ps_ret pe_bl)) pss_nil)
    (pss_one (ps_ret (pe_cmpR op_isB (pe_call Gjudge_obstacle hr (by rfl) Djudge_obstacle.g Djudge_obstacle.F.kp Djudge_obstacle.b .nil pass0 (pa_cons (pv 0) (pa_cons (pv 1) (pa_cons (pv 2) pa_nil)))) pe_bl (nomark _)))))))), ?_⟩
    walk_at "rx"
    refine rd_newQ (by simp) fun H1 t1 S1 n1 h1 => ?_
    walk_at "rx"
    refine rd_newQ (by simp) fun H2 t2 S2 n2 h2 => ?_
    walk_at "rx"
    refine rd_newQ (by simp) fun H3 Lr S3 n3 h3 => ?_
    have S13 := (S1.trans S2).trans S3
    have r3 := r.same S13
    walk_at "rx"
    have e : (!decide (-1 ∈ es)) = decide (-1 ∉ es) := by
      by_cases z : -1 ∈ es
      · rw [decide_eq_true z, decide_eq_false (fun w => w z)]; rfl
      · rw [decide_eq_false z, decide_eq_true z]; rfl
    have ne : decide (es ≠ fs) = !decide (es = fs) := by
      by_cases z : es = fs
      · rw [decide_eq_true z, decide_eq_false (fun w => w z)]; rfl
      · rw [decide_eq_false z, decide_eq_true z]; rfl
    refine rd_neI r3.ta r3.tb ?_
    refine and_cut (d := decide (-1 ∉ es)) (fun _ R' qR => ?_) fun H4 S4 => ?_
    · walk_at "rx"
      refine rd_ninO r3.ta rfl ?_
      rw [inV_ints, e]
      exact qR _ (Same.refl _)
    have r4 := r3.same S4
    walk_at "rx"
    refine rd_neI r4.ta r4.tb ?_
    refine and_cut (d := decide (codes es = codes fs)) (fun _ R' qR => ?_) fun H5 S5 => ?_
    · walk_at "rx"
      refine ⟨a, es, rfl, r4.ta, r.ia.2.2, e12, fun H6 S6 => ?_⟩
      walk_at "rx"
      refine ⟨b, fs, rfl, (r4.same S6).tb, r.ib.2.2, r.ib.2.1, fun H7 S7 => ?_⟩
      walk_at "rx"
      rw [show decide (V.str (txt (codes es)) = V.str (txt (codes fs))) = decide (codes es = codes fs) from decide_eq_decide.mpr ⟨fun w => txt_inj (V.str.inj w), fun w => by rw [w]⟩]
      exact qR _ (S6.trans S7)
    rw [show ((!decide (es = fs)) && decide (-1 ∉ es)) = jv 1 es fs by unfold jv; rw [ne]; rfl]
    rw [show ((!decide (es = fs)) && decide (codes es = codes fs)) = jv 2 es fs by unfold jv; rw [ne]; rfl]
    walk_at "rx"
    refine rd_newQ (by simp) fun H6 Lh S6 n6 h6 => ?_
    have S36 := (S4.trans S5).trans S6
    have h26 := S36 _ _ (S3 _ _ h2)
    have h16 := S36 _ _ (S3 _ _ (S2 _ _ h1))
    have h36 := S36 _ _ h3
    have S06 := S13.trans S36
    walk_at "rx"
    have hr2 : -100000 ≤ (2 : Int) ∧ (2 : Int) ≤ 100000 := by decide
    walk_at "rx"
    rw [show (2 : Int).toNat = 2 from rfl]
    refine fr_rng0 (fun i σ H' => ∃ (y5 y6 : Option V), σ = [some (.ref a), some (.ref b), some due, some (.ref Lr), some (.ref Lh), y5, y6] ∧ Same H6 H') ⟨none, none, rfl, Same.refl _⟩ ?_ ?_
    · rintro i σ Ha hi ⟨y5, y6, rfl, Sa⟩
      have hi2 : i < 2 := hi
      obtain ⟨t, et, rt, ej⟩ : ∃ t : Addr, atI [V.ref t1, V.ref t2] (i : Int) = some (.ref t) ∧ RsnAt Ha t (i + 1) es fs ∧ atI [V.bl (jv 1 es fs), V.bl (jv 2 es fs)] (i : Int) = some (.bl (jv (i + 1) es fs)) := by
        have c : i = 0 ∨ i = 1 := by omega
        rcases c with rfl | rfl
        · exact ⟨t1, rfl, .inl ⟨rfl, Sa _ _ h16⟩, rfl⟩
        · exact ⟨t2, rfl, .inr (.inl ⟨rfl, Sa _ _ h26⟩), rfl⟩
      have h3a := Sa _ _ h36
      have h6a := Sa _ _ h6
      walk_at "rx"
      refine ⟨a, b, t, es, fs, i + 1, rfl, (r.same S06).same Sa, rt, fun e => by omega, fun Hb Sb => ?_⟩
      have h6b := Sb _ _ h6a
      walk_at "rx"
      rw [decide_eq_true (show V.bl (jv (i + 1) es fs) = V.bl (jv (i + 1) es fs) from rfl)]
      walk_at "rx"
      exact ⟨_, _, rfl, Sa.trans Sb⟩
    rintro σ Ha ⟨y5, y6, rfl, Sa⟩
    have S0a := S06.trans Sa
    rcases hd with ⟨v0, rfl⟩ | ⟨d, rfl, vn, du⟩
    · walk_at "rx"
      rw [decide_eq_true (show V.non = V.non from rfl)]
      walk_at "rx"
      exact q _ S0a
    have dua := du.same S0a
    walk_at "rx"
    rw [decide_eq_false (show ¬ V.ref d = V.non from fun w => by cases w)]
    rcases dua with ⟨n4, ⟨e, hd⟩ | ⟨e, hd⟩ | ⟨e, t, bs, hd, ht, tb⟩⟩ | ⟨e, t, bs, hd, ht, tb⟩
    · walk_at "rx"
      rw [decide_eq_false (show ¬ V.str (Str.ofString "full") = V.str (Str.ofString "rings") from fun w => absurd (V.str.inj w) (by decide))]
      walk_at "rx"
      exact q _ S0a
    · walk_at "rx"
      rw [decide_eq_false (show ¬ V.str (Str.ofString "alike") = V.str (Str.ofString "rings") from fun w => absurd (V.str.inj w) (by decide))]
      walk_at "rx"
      exact q _ S0a
    · walk_at "rx"
      rw [decide_eq_true (show V.str (Str.ofString "rings") = V.str (Str.ofString "rings") from rfl)]
      walk_at "rx"
      refine ⟨a, b, d, es, fs, 3, rfl, r.same S0a, .inr (.inr ⟨rfl, t, bs, hd, ht, tb⟩), fun _ => e, fun Hb Sb => ?_⟩
      have j3 : jv 3 es fs = true := by
        unfold jv
        rw [decide_eq_true (vdt_ne vn)]
        rfl
      rw [j3]
      walk_at "rx"
      refine rd_isB ?_
      rw [decide_eq_true rfl]
      exact q _ (S0a.trans Sb)
    · walk_at "rx"
      rw [decide_eq_false (show ¬ V.str (Str.ofString "undecided") = V.str (Str.ofString "rings") from fun w => absurd (V.str.inj w) (by decide))]
      walk_at "rx"
      exact q _ S0a
def sp_law_raised (_K : PySem.W.Frag) : Sp := fun vs H Q _ => ∃ (a b d : Addr) (es fs : List Int) (w : Nat), vs = [.ref a, .ref b, .int (w : Int), .ref d] ∧ RP H a b es fs ∧ vdt es fs ≠ 0 ∧ DuAt H d (vdt es fs) es fs ∧ (w < 2 ∨ vdt es fs = 4) ∧ ∀ H', Same H H' → Q (.bl true) H'
set_option maxHeartbeats 4000000 in
theorem ok_law_raised (T : Top K mg) {f : Addr} {fd : FuncData} (D : Def K mg "_law_raised" s_law_raised ["before", "after", "way", "due"] f fd) : FnOk P w K mg base CX0 11 f fd ["before", "after", "way", "due"] (sp_law_raised K) := by
  obtain ⟨fE_NoPlan, fdE_NoPlan, ET_NoPlan, FE_NoPlan, bE_NoPlan⟩ := T.e_NoPlan
  have GI_NoPlan := okInit_NoPlan (P := P) (w := w) (base := base) ET_NoPlan FE_NoPlan
  obtain ⟨fE_Undecided, fdE_Undecided, ET_Undecided, FE_Undecided, bE_Undecided⟩ := T.e_Undecided
  have GI_Undecided := okInit_Undecided (P := P) (w := w) (base := base) ET_Undecided FE_Undecided
  obtain ⟨fplan, fdplan, Dplan⟩ := T.d_plan
  have Gplan : FnOk P w K mg base (L2N.CX P w) 10 fplan fdplan ["before", "after"] (spplan K) := okplan T Dplan
  obtain ⟨ffewest_moves, fdfewest_moves, Dfewest_moves⟩ := T.d_fewest_moves
  have Gfewest_moves : FnOk P w K mg base (L2N.CX P w) 10 ffewest_moves fdfewest_moves ["before", "after"] (spfewest_moves K) := okfewest_moves T Dfewest_moves
  obtain ⟨fobstacle, fdobstacle, Dobstacle⟩ := T.d_obstacle
  have Gobstacle : FnOk P w K mg base (L2N.CX P w) 8 fobstacle fdobstacle ["before", "after"] (spobstacle K) := okobstacle T Dobstacle
  obtain ⟨f_law_is_reason, fd_law_is_reason, D_law_is_reason⟩ := T.d__law_is_reason
  have G_law_is_reason : FnOk P w K mg base CX0 3 f_law_is_reason fd_law_is_reason ["told", "due"] (sp_law_is_reason K) := ok_law_is_reason T D_law_is_reason
  have GQ_law_is_reason : L2H.FnH P w K mg base CX0 3 f_law_is_reason fd_law_is_reason ["told", "due"] (sp_law_is_reason K) := okQ_law_is_reason T D_law_is_reason
  refine D.F.ok sc_law_raised (fun vs H Q E h => ?_) (fun cdv A outer s H vs Q E hr h => ?_)
  · obtain ⟨a, b, d, es, fs, w, rfl, _⟩ := h
    rfl
  · obtain ⟨a, b, d, es, fs, w, rfl, r, v0, hd, hw, q⟩ := h
    refine ⟨_, (pss_cons (RN.ps_tryM [(.ref (atTop K "NoPlan"), 4, _), (.ref (atTop K "Undecided"), 4, _)] (_) rfl rfl sc_law_raised.nd (fun W pn xe tk => (pss_one (ps_if (pt_cmpR op_eq (pv 2) pe_int (nomark _)) (pss_one (ps_expr (pe_callS Gplan hr (by rfl) Dplan.g Dplan.F.kp Dplan.b (fun σ => L2N.passAt tk σ) (pa_cons (pv 0) (pa_cons (pv 1) pa_nil))))) (pss_one (ps_if (pt_cmpR op_eq (pv 2) pe_int (nomark _)) (pss_one (ps_expr (pe_callS Gfewest_moves hr (by rfl) Dfewest_moves.g Dfewest_moves.F.kp Dfewest_moves.b (fun σ => L2N.passAt tk σ) (pa_cons (pv 0) (pa_cons (pv 1) pa_nil))))) (pss_one (ps_expr (pe_callS Gobstacle (hr.mono (show 8 ≤ 10 by decide)) (by rfl) Dobstacle.g Dobstacle.F.kp Dobstacle.b (fun σ => L2N.passAt tk σ) (pa_cons (pv 0) (pa_cons (pv 1) pa_nil)))))))))) (.cons ⟨rfl, by decide, .inl ET_NoPlan.gC⟩ rfl rfl (fun a oe cls d pn hz hf => (pss_one (ps_ret (pe_and (pe_cmpR op_lt (pv 2) pe_int (nomark _)) (pe_and (pe_cmpR op_ne (pe_ix (r := rIxT K) ix_tup (pv 3) pe_int (fun _ _ => rfl)) pe_str (nomark _)) (pe_one (L2H.pe_callH GQ_law_is_reason (roomQ hr (by decide) _) (RN.suiteC hz hf) (by rfl) D_law_is_reason.g D_law_is_reason.F.kp D_law_is_reason.b RN.at0 (pa_cons (pe_xf ET_NoPlan.xf ET_NoPlan.noN hz.zc hf (pv 4)) (pa_cons (pv 3) pa_nil))))))))) (.cons ⟨rfl, by decide, .inl ET_Undecided.gC⟩ rfl rfl (fun a oe cls d pn hz hf => (pss_one (ps_ret (pe_and (pe_cmpR op_eq (pe_ix (r := rIxT K) ix_tup (pv 3) pe_int (fun _ _ => rfl)) pe_str (nomark _)) (pe_one (pe_cmpR (r := rEqD K) (op_eqD (unitsQ hr _)) (pe_xf ET_Undecided.xf ET_Undecided.noN hz.zc hf (pv 4)) (pe_ix (r := rIxT K) ix_tup (pv 3) pe_int (fun _ _ => rfl)) (nomark _))))))) .nil)))
    (pss_one (ps_ret pe_bl))), ?_⟩
    walk_at "rx"
    have undec : ∀ k, vdt es fs = k → k ≠ 4 → ∀ H1, Same H H1 → ∃ s tl, H1 d = some (.tup (.str s :: tl)) ∧ ¬ V.str s = V.str (Str.ofString "undecided") := fun k vk k4 H1 S1 => by
      rcases hd.same S1 with ⟨_, ⟨_, h⟩ | ⟨_, h⟩ | ⟨_, t, cs, h, _⟩⟩ | ⟨e, _⟩
      · exact ⟨_, _, h, fun w => absurd (V.str.inj w) (by decide)⟩
      · exact ⟨_, _, h, fun w => absurd (V.str.inj w) (by decide)⟩
      · exact ⟨_, _, h, fun w => absurd (V.str.inj w) (by decide)⟩
      · exact absurd (vk.symm.trans e) k4
    by_cases w0 : w = 0
    · have hwi : (w : Int) < 2 := by omega
      rw [decide_eq_true (show V.int (w : Int) = V.int 0 by rw [w0]; rfl)]
      walk_at "rx"
      refine ⟨.ref a, .ref b, rfl, .inl ⟨a, b, es, fs, rfl, rfl, r, ⟨fun e => absurd e v0, fun k vk k0 k4 H1 dd p S1 hdd hp => ?_, fun v4 H1 dd t bs S1 hdd ht tb => ?_⟩⟩⟩
      · refine ⟨true, T.x_NoPlan_NoPlan, iteT fun aa na => ?_⟩
        obtain ⟨s, tl, hx, hs⟩ := undec k vk k4 H1 S1
        have rs : RsnAt H1 d k es fs := by
          rcases hd.same S1 with ⟨_, h⟩ | ⟨e, _⟩
          · rw [← vk]; exact h
          · exact absurd (vk.symm.trans e) k4
        have a0 : atI (V.str s :: tl) (0 : Int) = some (.str s) := atI_nat (xs := V.str s :: tl) (j := 0) (v := V.str s) rfl
        walk_at "rx"
        refine ⟨rfl, rfl, dd, _, .ref p, rfl, hdd, by simp [List.lookup], ?_⟩
        walk_at "rx"
        refine ⟨p, d, es, fs, k, rfl, hp, rs, fun H2 S2 => ?_⟩
        exact q _ (S1.trans S2)
      · refine ⟨false, T.x_Undecided_NoPlan, iteF ⟨true, T.x_Undecided_Undecided, iteT fun aa na => ?_⟩⟩
        rcases hd.same S1 with ⟨n4, _⟩ | ⟨_, t2, cs2, hd2, ht2, tc2⟩
        · exact absurd v4 n4
        walk_at "rx"
        rw [decide_eq_true (show V.str (Str.ofString "undecided") = V.str (Str.ofString "undecided") from rfl)]
        walk_at "rx"
        refine ⟨rfl, rfl, dd, _, .ref t, rfl, hdd, by simp [List.lookup], ?_⟩
        walk_at "rx"
        refine rd_eqRT ht tb ht2 tc2 ?_
        exact q _ S1
    rw [decide_eq_false (show ¬ V.int (w : Int) = V.int 0 from fun z => w0 (by have := V.int.inj z; omega))]
    walk_at "rx"
    by_cases w1 : w = 1
    · have hwi : (w : Int) < 2 := by omega
      rw [decide_eq_true (show V.int (w : Int) = V.int 1 by rw [w1]; rfl)]
      walk_at "rx"
      refine ⟨.ref a, .ref b, rfl, .inl ⟨a, b, es, fs, rfl, rfl, r, ⟨fun e => absurd e v0, fun k vk k0 k4 H1 dd p S1 hdd hp => ?_, fun v4 H1 dd t bs S1 hdd ht tb => ?_⟩⟩⟩
      · refine ⟨true, T.x_NoPlan_NoPlan, iteT fun aa na => ?_⟩
        obtain ⟨s, tl, hx, hs⟩ := undec k vk k4 H1 S1
        have rs : RsnAt H1 d k es fs := by
          rcases hd.same S1 with ⟨_, h⟩ | ⟨e, _⟩
          · rw [← vk]; exact h
          · exact absurd (vk.symm.trans e) k4
        have a0 : atI (V.str s :: tl) (0 : Int) = some (.str s) := atI_nat (xs := V.str s :: tl) (j := 0) (v := V.str s) rfl
        walk_at "rx"
        refine ⟨rfl, rfl, dd, _, .ref p, rfl, hdd, by simp [List.lookup], ?_⟩
        walk_at "rx"
        refine ⟨p, d, es, fs, k, rfl, hp, rs, fun H2 S2 => ?_⟩
        exact q _ (S1.trans S2)
      · refine ⟨false, T.x_Undecided_NoPlan, iteF ⟨true, T.x_Undecided_Undecided, iteT fun aa na => ?_⟩⟩
        rcases hd.same S1 with ⟨n4, _⟩ | ⟨_, t2, cs2, hd2, ht2, tc2⟩
        · exact absurd v4 n4
        walk_at "rx"
        rw [decide_eq_true (show V.str (Str.ofString "undecided") = V.str (Str.ofString "undecided") from rfl)]
        walk_at "rx"
        refine ⟨rfl, rfl, dd, _, .ref t, rfl, hdd, by simp [List.lookup], ?_⟩
        walk_at "rx"
        refine rd_eqRT ht tb ht2 tc2 ?_
        exact q _ S1
    rw [decide_eq_false (show ¬ V.int (w : Int) = V.int 1 from fun z => w1 (by have := V.int.inj z; omega))]
    have v4' : vdt es fs = 4 := hw.resolve_left (by omega)
    walk_at "rx"
    refine ⟨.ref a, .ref b, rfl, .inl ⟨a, b, es, fs, rfl, rfl, r, ⟨fun e => absurd e v0, fun k vk k0 k4 => absurd (vk.symm.trans v4') k4, fun v4 H1 dd t bs S1 hdd ht tb => ?_⟩⟩⟩
    refine ⟨false, T.x_Undecided_NoPlan, iteF ⟨true, T.x_Undecided_Undecided, iteT fun aa na => ?_⟩⟩
    rcases hd.same S1 with ⟨n4, _⟩ | ⟨_, t2, cs2, hd2, ht2, tc2⟩
    · exact absurd v4 n4
    walk_at "rx"
    rw [decide_eq_true (show V.str (Str.ofString "undecided") = V.str (Str.ofString "undecided") from rfl)]
    walk_at "rx"
    refine ⟨rfl, rfl, dd, _, .ref t, rfl, hdd, by simp [List.lookup], ?_⟩
    walk_at "rx"
    refine rd_eqRT ht tb ht2 tc2 ?_
    exact q _ S1
def sp_law_fits (_K : PySem.W.Frag) : Sp := fun vs H Q _ => ∃ (a : Addr) (es : List Int), vs = [.str (txt (codes es)), .ref a] ∧ TG H a es ∧ Rg es ∧ es.length ≤ 12 ∧ Q (.bl true) H
set_option maxHeartbeats 4000000 in
theorem ok_law_fits (T : Top K mg) {f : Addr} {fd : FuncData} (D : Def K mg "_law_fits" s_law_fits ["guard", "held"] f fd) : FnOk P w K mg base CX0 1 f fd ["guard", "held"] (sp_law_fits K) := by
  refine D.F.ok sc_law_fits (fun vs H Q E h => ?_) (fun cdv A outer s H vs Q E hr h => ?_)
  · obtain ⟨a, es, rfl, _⟩ := h
    rfl
  · obtain ⟨a, es, rfl, ha, R, e12, q⟩ := h
    have hr1 : -100000 ≤ (((txt (codes es)).length : Nat) : Int) ∧ (((txt (codes es)).length : Nat) : Int) ≤ 100000 := by rw [txt_len, codes_len]; omega
    have hz : (txt (codes es)).length ≤ sizeLine := by
      rw [txt_len, codes_len]
      exact Nat.le_trans e12 (by decide)
    refine ⟨_, (pss_cons (ps_for PassesOwn.never rfl (pi_range1 (by rfl) T.b_range (pa_cons (pe_callB call_lenZ (by rfl) T.b_len PySem.boot_len (pa_cons (pv 0) pa_nil)) pa_nil)) (pg_name (i := 2) sc_law_fits.nd rfl (.inl rfl)) (pss_cons (ps_if (PW.pt (pw_and (pt_cmpR op_eq (pe_ix ix_str (pv 0) (pv 2) (fun _ _ => rfl)) pe_str (nomark _)) (pw_and1 (pt_cmpR op_ne (pe_ix (r := rIxT K) ix_tup (pv 1) (pv 2) (fun _ _ => rfl)) (pe_un un_neg pe_int) (nomark _))))) (pss_one (ps_ret pe_bl)) pss_nil)
    (pss_cons (ps_if (PW.pt (pw_and (pt_cmpR op_eq (pe_ix ix_str (pv 0) (pv 2) (fun _ _ => rfl)) pe_str (nomark _)) (pw_and1 (pt_cmpR op_eq (pe_ix (r := rIxT K) ix_tup (pv 1) (pv 2) (fun _ _ => rfl)) (pe_un un_neg pe_int) (nomark _))))) (pss_one (ps_ret pe_bl)) pss_nil)
    (pss_one (ps_if (PW.pt (pw_and (pt_cmpR op_sgnQ (pe_ix ix_str (pv 0) (pv 2) (fun _ _ => rfl)) pe_str rfl) (pw_and1 (PW.pt (pw_or (pt_cmpR op_eq (pe_ix (r := rIxT K) ix_tup (pv 1) (pv 2) (fun _ _ => rfl)) (pe_un un_neg pe_int) (nomark _)) (pw_or1 (pt_cmpR op_ne (pe_op op_fdivN (pe_ix (r := rIxT K) ix_tup (pv 1) (pv 2) (fun _ _ => rfl)) pe_int) (pe_callTy call_intZ (by rfl) T.b_int (by decide +kernel) (pa_cons (pe_ix ix_str (pv 0) (pv 2) (fun _ _ => rfl)) pa_nil)) (nomark _)))))))) (pss_one (ps_ret pe_bl)) pss_nil)))))
    (pss_one (ps_ret pe_bl))), ?_⟩
    walk_at "rx"
    refine fr_rng0 (fun i σ H' => ∃ (y2 : Option V), σ = [some (.str (txt (codes es))), some (.ref a), y2] ∧ H' = H) ⟨none, rfl, rfl⟩ ?_ ?_
    · rintro i σ Ha hi ⟨y2, rfl, rfl⟩
      have hi2 : i < es.length := by rw [txt_len, codes_len] at hi; omega
      have ec : (codes es)[i]? = some (sg es[i]) := by unfold codes; rw [List.getElem?_map, List.getElem?_eq_getElem hi2]; rfl
      have ee : atI (es.map V.int) (i : Int) = some (.int (es.getD i 0)) := atI_ints (by omega) (by omega)
      have es1 : atI (txt (codes es)).cps.toList (i : Int) = some (sg es[i]) := by rw [txt_cps]; exact atI_nat ec
      have ek : es.getD i 0 = es[i] := getD_get hi2
      have k := R _ (List.getElem_mem hi2)
      rw [ek] at ee
      generalize es[i] = x at *
      walk_at "rx"
      by_cases z : x = -1
      · subst z
        rw [decide_eq_true (show V.str ⟨#[sg (-1)]⟩ = V.str (Str.ofString ".") from rfl)]
        walk_at "rx"
        rw [decide_eq_true (show V.int (-1) = V.int (-1) from rfl)]
        walk_at "rx"
        rw [decide_eq_false (show ¬ V.str ⟨#[sg (-1)]⟩ = V.str (Str.ofString "*") by decide +kernel)]
        walk_at "rx"
        rw [decide_eq_false (show sg (-1) ∉ (Str.ofString "0123456789").cps.toList by decide +kernel)]
        walk_at "rx"
        exact ⟨_, rfl, rfl⟩
      · obtain ⟨k0, k1⟩ := kind_small (e := x) (by omega) k.2
        have es2 : sg x = 48 + (x.fdiv 100).toNat := by unfold sg; rw [if_neg z]
        have sne : ∀ c : Nat, c < 48 → ¬ V.str ⟨#[sg x]⟩ = V.str ⟨#[c]⟩ := fun c hc w => by
          have := sgn_inj (a := sg x) (b := c) (V.str.inj w)
          omega
        rw [decide_eq_false (show ¬ V.str ⟨#[sg x]⟩ = V.str (Str.ofString ".") from sne 46 (by decide))]
        walk_at "rx"
        rw [decide_eq_false (show ¬ V.str ⟨#[sg x]⟩ = V.str (Str.ofString "*") from sne 42 (by decide))]
        walk_at "rx"
        rw [decide_eq_true (show sg x ∈ (Str.ofString "0123456789").cps.toList by rw [es2]; exact digit_mem (by omega))]
        walk_at "rx"
        rw [decide_eq_false (show ¬ V.int x = V.int (-1) from fun w => z (V.int.inj w))]
        walk_at "rx"
        have ei : ((x.fdiv 100).toNat : Int) = x.fdiv 100 := by omega
        rw [es2]
        refine rd_intD (by omega) ?_
        rw [ei]
        walk_at "rx"
        rw [decide_eq_true (show V.int (x.fdiv 100) = V.int (x.fdiv 100) from rfl)]
        walk_at "rx"
        exact ⟨_, rfl, rfl⟩
    · rintro σ Ha ⟨y2, rfl, rfl⟩
      walk_at "rx"
      exact q
def sp_law_done (_K : PySem.W.Frag) : Sp := fun vs H Q _ => ∃ (p a : Addr) (t s : Nat) (es : List Int), vs = [.ref p, .ref a] ∧ H p = some (.tup [.str sMove, .int (t : Int), .int (s : Int), .str (txt (codes es))]) ∧ TG H a es ∧ Rg es ∧ es.length ≤ 12 ∧ t < es.length ∧ s < es.length ∧ es.getD s 0 ≠ -1 ∧ ∀ H' y, Same H H' → TG H' y (mv es t s) → Q (.ref y) H'
set_option maxHeartbeats 4000000 in
theorem ok_law_done (T : Top K mg) {f : Addr} {fd : FuncData} (D : Def K mg "_law_done" s_law_done ["line", "held"] f fd) : FnOk P w K mg base CX0 2 f fd ["line", "held"] (sp_law_done K) := by
  obtain ⟨f_law_fits, fd_law_fits, D_law_fits⟩ := T.d__law_fits
  have G_law_fits : FnOk P w K mg base CX0 1 f_law_fits fd_law_fits ["guard", "held"] (sp_law_fits K) := ok_law_fits T D_law_fits
  refine D.F.ok sc_law_done (fun vs H Q E h => ?_) (fun cdv A outer s H vs Q E hr h => ?_)
  · obtain ⟨p, a, t, s, es, rfl, _⟩ := h
    rfl
  · obtain ⟨p, a, t, s, es, rfl, hp, ha, R, l12, lt, ls, fs, q⟩ := h
    refine ⟨_, (pss_cons (ps_if (pt_not (pt_val (pe_call G_law_fits hr (by rfl) D_law_fits.g D_law_fits.F.kp D_law_fits.b .nil pass0 (pa_cons (pe_ix (r := rIxT K) ix_tup (pv 0) pe_int (fun _ _ => rfl)) (pa_cons (pv 1) pa_nil))))) (pss_one (ps_ret (pv 1))) pss_nil)
    (pss_cons (ps_set (i := 2) sc_law_done.nd rfl (.inl rfl) (pe_callTy (r := rLstQ K) call_lstQ (by rfl) T.b_list (by decide +kernel) (pa_cons (pv 1) pa_nil)))
    (pss_cons (ps_if (pt_cmpR op_eq (pe_ix (r := rIxT K) ix_tup (pv 0) pe_int (fun _ _ => rfl)) pe_str (nomark _)) (pss_cons (ps_asg (pe_un un_neg pe_int) (pg_sub (pv 2) (pe_ix (r := rIxT K) ix_tup (pv 0) pe_int (fun _ _ => rfl)) set_list))
    (pss_one (ps_ret (pe_callTy (r := rTupQ K) call_tupQ (by rfl) T.b_tuple (by decide +kernel) (pa_cons (pv 2) pa_nil))))) pss_nil)
    (pss_cons (ps_if (pt_cmpR op_eq (pe_ix (r := rIxT K) ix_tup (pv 1) (pe_ix (r := rIxT K) ix_tup (pv 0) pe_int (fun _ _ => rfl)) (fun _ _ => rfl)) (pe_un un_neg pe_int) (nomark _)) (pss_one (ps_ret (pv 1))) pss_nil)
    (pss_cons (ps_asg (pe_ix (r := rIxT K) ix_tup (pv 1) (pe_ix (r := rIxT K) ix_tup (pv 0) pe_int (fun _ _ => rfl)) (fun _ _ => rfl)) (pg_sub (pv 2) (pe_ix (r := rIxT K) ix_tup (pv 0) pe_int (fun _ _ => rfl)) set_list))
    (C8.pss_cut (ps_if (pt_cmpR op_eq (pe_ix (r := rIxT K) ix_tup (pv 0) pe_int (fun _ _ => rfl)) pe_str (nomark _)) (pss_one (ps_asg (pe_un un_neg pe_int) (pg_sub (pv 2) (pe_ix (r := rIxT K) ix_tup (pv 0) pe_int (fun _ _ => rfl)) set_list))) pss_nil)
    (pss_one (ps_ret (pe_callTy (r := rTupQ K) call_tupQ (by rfl) T.b_tuple (by decide +kernel) (pa_cons (pv 2) pa_nil)))))))))), ?_⟩
    walk_at "rx"
    refine ⟨a, es, rfl, ha, R, l12, ?_⟩
    walk_at "rx"
    refine rd_newL fun H1 L S1 nL hL => ?_
    have hp1 := S1 _ _ hp
    have ha1 := ha.same S1
    have pL : p ≠ L := fun k => by rw [k, hL] at hp1; cases hp1
    have at2 : atI (es.map V.int) (s : Int) = some (.int (es.getD s 0)) := atI_ints (by omega) (by omega)
    have ix1 : ixN (es.map V.int).length (t : Int) = some t := ixN_of (by omega) (by rw [List.length_map]; omega)
    have ix2 : ixN ((es.map V.int).set t (V.int (es.getD s 0))).length (s : Int) = some s := ixN_of (by omega) (by rw [List.length_set, List.length_map]; omega)
    walk_at "rx"
    rw [decide_eq_false (show ¬ V.str sMove = V.str (Str.ofString "clear") by decide +kernel)]
    walk_at "rx"
    rw [decide_eq_false (show ¬ V.int (es.getD s 0) = V.int (-1) from fun w => fs (V.int.inj w))]
    walk_at "rx"
    refine ⟨fun σ' H' => σ' = [some (.ref p), some (.ref a), some (.ref L)] ∧ H' = upd (upd H1 L (.lst ((es.map V.int).set t (V.int (es.getD s 0))))) L (.lst (((es.map V.int).set t (V.int (es.getD s 0))).set s (V.int (-1)))), ?_, ?_⟩
    · walk_at "rx"
      rw [decide_eq_true (show V.str sMove = V.str (Str.ofString "move") from rfl)]
      walk_at "rx"
      exact ⟨rfl, rfl⟩
    rintro σ' H' ⟨rfl, rfl⟩
    walk_at "rx"
    refine rd_newL fun H2 y S2 ny hy => ?_
    rw [set_mv] at hy
    exact q H2 y ((same_mut (same_mut S1 nL) nL).trans S2) (.of hy)
def sp_law_is_move (_K : PySem.W.Frag) : Sp := fun vs H Q _ => ∃ (p a : Addr) (t s : Nat) (es : List Int), vs = [.ref p, .ref a, .str (txt (codes es))] ∧ H p = some (.tup [.str sMove, .int (t : Int), .int (s : Int), .str (txt (codes es))]) ∧ TG H a es ∧ es.length ≤ 12 ∧ t < es.length ∧ s < es.length ∧ es.getD t 0 = -1 ∧ es.getD s 0 ≠ -1 ∧ ∀ H', Same H H' → Q (.bl true) H'
set_option maxHeartbeats 4000000 in
theorem ok_law_is_move (T : Top K mg) {f : Addr} {fd : FuncData} (D : Def K mg "_law_is_move" s_law_is_move ["line", "held", "view"] f fd) : FnOk P w K mg base CX0 2 f fd ["line", "held", "view"] (sp_law_is_move K) := by
  obtain ⟨f_law_whole, fd_law_whole, D_law_whole⟩ := T.d__law_whole
  have G_law_whole : FnOk P w K mg base CX0 1 f_law_whole fd_law_whole ["told"] (sp_law_whole K) := ok_law_whole T D_law_whole
  refine D.F.ok sc_law_is_move (fun vs H Q E h => ?_) (fun cdv A outer s H vs Q E hr h => ?_)
  · obtain ⟨p, a, t, s, es, rfl, _⟩ := h
    rfl
  · obtain ⟨p, a, t, s, es, rfl, hp, ha, l12, lt, ls, ft, fs, q⟩ := h
    refine ⟨_, (pss_cons (ps_if (PW.pt (pw_or (pt_not (pt_val (pe_callB (r := rIsi K) call_isi (by rfl) T.b_isinstance (by decide +kernel) (pa_cons (pv 0) (pa_cons (pe_bltn (v := .ty "tuple") (by rfl) T.b_tuple (by decide +kernel) rfl) pa_nil))))) (pw_or (pt_cmpR op_ne (pe_callB (r := rLenQ K) call_lenQ (by rfl) T.b_len PySem.boot_len (pa_cons (pv 0) pa_nil)) pe_int (nomark _)) (pw_or (pt_cmpR op_ne (pe_ix (r := rIxT K) ix_tup (pv 0) pe_int (fun _ _ => rfl)) pe_str (nomark _)) (pw_or1 (pt_cmpR op_ne (pe_ix (r := rIxT K) ix_tup (pv 0) pe_int (fun _ _ => rfl)) (pv 2) (nomark _))))))) (pss_one (ps_ret pe_bl)) pss_nil)
    (pss_cons (ps_if (PW.pt (pw_or (pt_not (pt_val (pe_call G_law_whole hr (by rfl) D_law_whole.g D_law_whole.F.kp D_law_whole.b .nil pass0 (pa_cons (pe_ix (r := rIxT K) ix_tup (pv 0) pe_int (fun _ _ => rfl)) pa_nil)))) (pw_or1 (pt_not (pt_val (pe_call G_law_whole hr (by rfl) D_law_whole.g D_law_whole.F.kp D_law_whole.b .nil pass0 (pa_cons (pe_ix (r := rIxT K) ix_tup (pv 0) pe_int (fun _ _ => rfl)) pa_nil))))))) (pss_one (ps_ret pe_bl)) pss_nil)
    (pss_cons (ps_for PassesOwn.never rfl (pi_list (pe_lst (pa_cons (pe_ix (r := rIxT K) ix_tup (pv 0) pe_int (fun _ _ => rfl)) (pa_cons (pe_ix (r := rIxT K) ix_tup (pv 0) pe_int (fun _ _ => rfl)) pa_nil)))) (pg_name (i := 3) sc_law_is_move.nd rfl (.inl rfl)) (pss_one (ps_if (PW.pt (pw_or (pt_cmpR op_lt (pv 3) pe_int (nomark _)) (pw_or1 (pt_cmpR op_ge (pv 3) (pe_callB (r := rLenQ K) call_lenQ (by rfl) T.b_len PySem.boot_len (pa_cons (pv 1) pa_nil)) (nomark _))))) (pss_one (ps_ret pe_bl)) pss_nil)))
    (pss_one (ps_ret (pe_and (pe_cmpR op_eq (pe_ix (r := rIxT K) ix_tup (pv 1) (pe_ix (r := rIxT K) ix_tup (pv 0) pe_int (fun _ _ => rfl)) (fun _ _ => rfl)) (pe_un un_neg pe_int) (nomark _)) (pe_one (pe_cmpR op_ne (pe_ix (r := rIxT K) ix_tup (pv 1) (pe_ix (r := rIxT K) ix_tup (pv 0) pe_int (fun _ _ => rfl)) (fun _ _ => rfl)) (pe_un un_neg pe_int) (nomark _))))))))), ?_⟩
    walk_at "rx"
    rw [decide_eq_true (show V.int (([V.str sMove, V.int (t : Int), V.int (s : Int), V.str (txt (codes es))].length : Nat) : Int) = V.int 4 from rfl)]
    walk_at "rx"
    rw [decide_eq_true (show V.str sMove = V.str (Str.ofString "move") from rfl)]
    walk_at "rx"
    rw [decide_eq_true (show V.str (txt (codes es)) = V.str (txt (codes es)) from rfl)]
    walk_at "rx"
    refine ⟨_, rfl, ?_⟩
    walk_at "rx"
    refine ⟨_, rfl, ?_⟩
    walk_at "rx"
    refine rd_newQ (by simp) fun H1 L S1 nL hL => ?_
    have ha1 := ha.same S1
    have hp1 := S1 _ _ hp
    have at1 : atI (es.map V.int) (s : Int) = some (.int (es.getD s 0)) := atI_ints (by omega) (by omega)
    have at2 : atI (es.map V.int) (t : Int) = some (.int (es.getD t 0)) := atI_ints (by omega) (by omega)
    walk_at "rx"
    refine fr_it (walk_list (xs := [V.int (t : Int), V.int (s : Int)])) (fun i σ H' => ∃ (y3 : Option V), σ = [some (.ref p), some (.ref a), some (.str (txt (codes es))), y3] ∧ H' = H1) ⟨none, rfl, rfl⟩ (fun i σ H' _ pp => ?_) ?_ ?_
    · obtain ⟨_, _, rfl⟩ := pp
      exact SqL.of hL
    · rintro i x σ Ha Hb hi ⟨y3, rfl, rfl⟩ ⟨eH, ex⟩
      subst eH
      have hi4 : i < 2 := hi
      obtain ⟨k, rfl, hk⟩ : ∃ k : Nat, x = .int (k : Int) ∧ k < es.length := by
        have c : i = 0 ∨ i = 1 := by omega
        rcases c with rfl | rfl
        · cases ex; exact ⟨t, rfl, lt⟩
        · cases ex; exact ⟨s, rfl, ls⟩
      walk_at "rx"
      rw [decide_eq_false (show ¬ (k : Int) < 0 by omega)]
      walk_at "rx"
      rw [decide_eq_false (show ¬ ((es.length : Nat) : Int) ≤ (k : Int) by omega)]
      walk_at "rx"
      exact ⟨_, rfl, rfl⟩
    · rintro σ Ha ⟨y3, rfl, rfl⟩
      walk_at "rx"
      rw [decide_eq_true (show V.int (es.getD t 0) = V.int (-1) by rw [ft])]
      walk_at "rx"
      rw [decide_eq_false (show ¬ V.int (es.getD s 0) = V.int (-1) from fun w => fs (V.int.inj w))]
      walk_at "rx"
      exact q _ S1
def sp_law_is_plan (_K : PySem.W.Frag) : Sp := fun vs H Q _ => ∃ (l a b : Addr) (ps : List Addr) (es fs : List Int) (ms : List (Nat × Nat)), vs = [.ref l, .ref a, .ref b] ∧ RP H a b es fs ∧ H l = some (.lst (ps.map V.ref)) ∧ TupsAt H ps (rows (stairL es ms)) ∧ Planned es fs ms ∧ ∀ H', Same H H' → Q (.bl true) H'
set_option maxHeartbeats 4000000 in
theorem ok_law_is_plan (T : Top K mg) {f : Addr} {fd : FuncData} (D : Def K mg "_law_is_plan" s_law_is_plan ["told", "before", "after"] f fd) : FnOk P w K mg base CX0 3 f fd ["told", "before", "after"] (sp_law_is_plan K) := by
  obtain ⟨f_law_view, fd_law_view, D_law_view⟩ := T.d__law_view
  have G_law_view : FnOk P w K mg base CX0 1 f_law_view fd_law_view ["held"] (sp_law_view K) := ok_law_view T D_law_view
  obtain ⟨f_law_done, fd_law_done, D_law_done⟩ := T.d__law_done
  have G_law_done : FnOk P w K mg base CX0 2 f_law_done fd_law_done ["line", "held"] (sp_law_done K) := ok_law_done T D_law_done
  obtain ⟨f_law_moving, fd_law_moving, D_law_moving⟩ := T.d__law_moving
  have G_law_moving : FnOk P w K mg base CX0 1 f_law_moving fd_law_moving ["before", "after"] (sp_law_moving K) := ok_law_moving T D_law_moving
  obtain ⟨f_law_rings, fd_law_rings, D_law_rings⟩ := T.d__law_rings
  have G_law_rings : FnOk P w K mg base CX0 1 f_law_rings fd_law_rings ["before", "after"] (sp_law_rings K) := ok_law_rings T D_law_rings
  obtain ⟨f_law_is_move, fd_law_is_move, D_law_is_move⟩ := T.d__law_is_move
  have G_law_is_move : FnOk P w K mg base CX0 2 f_law_is_move fd_law_is_move ["line", "held", "view"] (sp_law_is_move K) := ok_law_is_move T D_law_is_move
  refine D.F.ok sc_law_is_plan (fun vs H Q E h => ?_) (fun cdv A outer s H vs Q E hr h => ?_)
  · obtain ⟨l, a, b, ps, es, fs, ms, rfl, _⟩ := h
    rfl
  · obtain ⟨l, a, b, ps, es, fs, ms, rfl, r, hl, tp, pl, q⟩ := h
    have R := r.rn
    have e12 := r.ia.2.1
    have lf := R.len
    refine ⟨_, (pss_cons (ps_set (i := 3) sc_law_is_plan.nd rfl (.inl rfl) (pe_op op_add (pe_callB (r := rLenQ K) call_lenQ (by rfl) T.b_len PySem.boot_len (pa_cons (pe_call G_law_moving (hr.mono (by decide)) (by rfl) D_law_moving.g D_law_moving.F.kp D_law_moving.b .nil pass0 (pa_cons (pv 1) (pa_cons (pv 2) pa_nil))) pa_nil)) (pe_callB (r := rLenQ K) call_lenQ (by rfl) T.b_len PySem.boot_len (pa_cons (pe_call G_law_rings (hr.mono (by decide)) (by rfl) D_law_rings.g D_law_rings.F.kp D_law_rings.b .nil pass0 (pa_cons (pv 1) (pa_cons (pv 2) pa_nil))) pa_nil))))
    (pss_cons (ps_if (PW.pt (pw_or (pt_not (pt_val (pe_callB (r := rIsi K) call_isi (by rfl) T.b_isinstance (by decide +kernel) (pa_cons (pv 0) (pa_cons (pe_bltn (v := .ty "list") (by rfl) T.b_list (by decide +kernel) rfl) pa_nil))))) (pw_or1 (pt_cmpR op_ne (pe_callB (r := rLenQ K) call_lenQ (by rfl) T.b_len PySem.boot_len (pa_cons (pv 0) pa_nil)) (pv 3) (nomark _))))) (pss_one (ps_ret pe_bl)) pss_nil)
    (pss_cons (ps_set (i := 4) sc_law_is_plan.nd rfl (.inl rfl) (pv 1))
    (pss_cons (ps_set (i := 5) sc_law_is_plan.nd rfl (.inl rfl) (pe_lst (pa_cons (pe_call G_law_view (hr.mono (by decide)) (by rfl) D_law_view.g D_law_view.F.kp D_law_view.b .nil pass0 (pa_cons (pv 1) pa_nil)) pa_nil)))
    (pss_cons (ps_for PassesOwn.never rfl (pi_list (pv 0)) (pg_name (i := 6) sc_law_is_plan.nd rfl (.inl rfl)) (pss_cons (ps_if (pt_not (pt_val (pe_call G_law_is_move hr (by rfl) D_law_is_move.g D_law_is_move.F.kp D_law_is_move.b .nil pass0 (pa_cons (pv 6) (pa_cons (pv 4) (pa_cons (pe_ix (r := rIxL K) ix_list (pv 5) (pe_un un_neg pe_int) (fun _ _ => rfl)) pa_nil)))))) (pss_one (ps_ret pe_bl)) pss_nil)
    (pss_cons (ps_set (i := 4) sc_law_is_plan.nd rfl (.inl rfl) (pe_call G_law_done hr (by rfl) D_law_done.g D_law_done.F.kp D_law_done.b .nil pass0 (pa_cons (pv 6) (pa_cons (pv 4) pa_nil))))
    (pss_cons (ps_if (pt_cmpR (r := rIn K false) op_in_seq (pe_call G_law_view (hr.mono (by decide)) (by rfl) D_law_view.g D_law_view.F.kp D_law_view.b .nil pass0 (pa_cons (pv 4) pa_nil)) (pv 5) (by rfl)) (pss_one (ps_ret pe_bl)) pss_nil)
    (pss_one (ps_expr (pe_bm PySem.F.plainAttrs_list PySem.F.slot_list_append PySem.F.type_list_append mt_append (pv 5) (pa_cons (pe_call G_law_view (hr.mono (by decide)) (by rfl) D_law_view.g D_law_view.F.kp D_law_view.b .nil pass0 (pa_cons (pv 4) pa_nil)) pa_nil))))))))
    (pss_one (ps_ret (pe_cmpR (op_eqD hr.units) (pv 4) (pv 2) (nomark _))))))))), ?_⟩
    walk_at "rx"
    refine ⟨a, b, es, fs, rfl, r, fun H1 mv1 m1 S1 n1 h1 pm pw => ?_⟩
    have r1 := r.same S1
    walk_at "rx"
    refine ⟨a, b, es, fs, rfl, r1, fun H2 l2 bs S2 n2 h2 tb => ?_⟩
    have r2 := r1.same S2
    have S12 := S1.trans S2
    have hl2 := S12 _ _ hl
    walk_at "rx"
    have few := planned_few pl r.ia
    obtain ⟨V', c⟩ := pl.climb
    have sl := stair_len ms es
    have lps : ps.length = ms.length := by
      have := tp.1
      unfold rows at this
      rw [List.length_map, sl] at this
      exact this
    have lm1 := pm.length_eq
    have lb := NRows.len tb
    rw [decide_eq_true (show V.int (((ps.map V.ref).length : Nat) : Int) = V.int ((((m1.map V.int).length : Nat) : Int) + (((bs.map V.ref).length : Nat) : Int)) by rw [List.length_map, List.length_map, List.length_map, lps, pl.len, lm1, lb]; rfl)]
    walk_at "rx"
    refine ⟨a, es, rfl, r2.ta, r.ia.2.2, e12, fun H3 S3 => ?_⟩
    walk_at "rx"
    refine rd_newQ (by simp) fun H4 Y S4 nY hY => ?_
    have S24 := S12.trans S3
    have nY0 : H Y = none := S24.free nY
    have S14 := S24.trans S4
    have hl4 := S14 _ _ hl
    walk_at "rx"
    refine fr_it (walk_list (xs := ps.map V.ref)) (fun i σ H' => ∃ (x : Addr) (g : List Int) (Vw : List (List Nat)) (y3 y6 : Option V), σ = [some (.ref l), some (.ref a), some (.ref b), y3, some (.ref x), some (.ref Y), y6] ∧ Same H H' ∧ TG H' x g ∧ H' Y = some (.lst (Vw.map fun c => V.str (txt c))) ∧ Hlf es fs ms i g Vw) ⟨a, es, [codes es], _, _, rfl, S14, (r.same S14).ta, hY, Hlf.start c r.ia.2.2⟩ (fun i σ H' _ pp => ?_) ?_ ?_
    · obtain ⟨_, _, _, _, _, _, S, _⟩ := pp
      exact SqL.of (S _ _ hl)
    · rintro i x0 σ H5 H6 hi ⟨x, g, Vw, y3, y6, rfl, S5, tx, hY5, hf⟩ ⟨rfl, ex⟩
      rw [List.length_map, lps] at hi
      obtain ⟨tt, ss, e1, l1, l2, g1, g2, nv, nxt⟩ := hf.step hi
      obtain ⟨p, e2, hp⟩ := (TupsAt.same S5 tp).2 i _ (by unfold rows; rw [List.getElem?_map, e1]; rfl)
      rw [List.getElem?_map, e2] at ex
      cases ex
      have hp : H6 p = some (.tup [.str sMove, .int (tt : Int), .int (ss : Int), .str (txt (codes g))]) := hp
      have lg := hf.len
      have lv := last_txt hf.vs.2
      walk_at "rx"
      refine ⟨p, x, tt, ss, g, rfl, hp, tx, by omega, l1, l2, g1, g2, fun H7 S7 => ?_⟩
      walk_at "rx"
      refine ⟨p, x, tt, ss, g, rfl, S7 _ _ hp, tx.same S7, hf.rg, by omega, l1, l2, g2, fun H8 y S8 ty => ?_⟩
      have S58 := S7.trans S8
      walk_at "rx"
      refine ⟨y, _, rfl, ty, nxt.rg, by rw [mv_len]; omega, fun H9 S9 => ?_⟩
      have hY9 := S9 _ _ (S58 _ _ hY5)
      have ty9 := ty.same S9
      walk_at "rx"
      refine rd_inLf hY9 rfl (txts_flat _) ?_
      rw [inV_txts, decide_eq_false nv]
      walk_at "rx"
      refine ⟨y, _, rfl, ty9, nxt.rg, by rw [mv_len]; omega, fun Ha Sa => ?_⟩
      have hYa := Sa _ _ hY9
      have lV := hf.vs.1
      have lV2 : (Vw.map fun c => V.str (txt c)).length < 1000 := by rw [List.length_map]; omega
      have Sall := ((S5.trans S58).trans S9).trans Sa
      have tya := ty9.same Sa
      walk_at "rx"
      refine ⟨y, mv g tt ss, Vw ++ [codes (mv g tt ss)], _, _, rfl, same_mut Sall nY0, ?_, by rw [upd_same, List.map_append]; rfl, nxt⟩
      exact tya.mut hYa
    · rintro σ H5 ⟨x, g, Vw, y3, y6, rfl, S5, tx, hY5, hf⟩
      rw [List.length_map, lps] at hf
      have eg := hf.done
      walk_at "rx"
      refine rd_eqI tx (r.same S5).tb ?_
      rw [decide_eq_true eg]
      exact q _ S5
def sp_law_length (_K : PySem.W.Frag) : Sp := fun vs H Q _ => ∃ (a b : Addr) (es fs : List Int), vs = [.ref a, .ref b] ∧ RP H a b es fs ∧ ∀ H', Same H H' → Q (.int (if vdt es fs = 0 then (((mvA es fs es.length).length + (rngs es fs).length : Nat) : Int) else -1)) H'
set_option maxHeartbeats 4000000 in
theorem ok_law_length (T : Top K mg) {f : Addr} {fd : FuncData} (D : Def K mg "_law_length" s_law_length ["before", "after"] f fd) : FnOk P w K mg base CX0 12 f fd ["before", "after"] (sp_law_length K) := by
  obtain ⟨f_law_obstacle, fd_law_obstacle, D_law_obstacle⟩ := T.d__law_obstacle
  have G_law_obstacle : FnOk P w K mg base CX0 2 f_law_obstacle fd_law_obstacle ["before", "after"] (sp_law_obstacle K) := ok_law_obstacle T D_law_obstacle
  obtain ⟨f_law_moving, fd_law_moving, D_law_moving⟩ := T.d__law_moving
  have G_law_moving : FnOk P w K mg base CX0 1 f_law_moving fd_law_moving ["before", "after"] (sp_law_moving K) := ok_law_moving T D_law_moving
  obtain ⟨f_law_rings_told, fd_law_rings_told, D_law_rings_told⟩ := T.d__law_rings_told
  have G_law_rings_told : FnOk P w K mg base CX0 7 f_law_rings_told fd_law_rings_told ["before", "after", "moved", "circles"] (sp_law_rings_told K) := ok_law_rings_told T D_law_rings_told
  obtain ⟨fplan, fdplan, Dplan⟩ := T.d_plan
  have Gplan : FnOk P w K mg base (L2N.CX P w) 10 fplan fdplan ["before", "after"] (spplan K) := okplan T Dplan
  obtain ⟨ffewest_moves, fdfewest_moves, Dfewest_moves⟩ := T.d_fewest_moves
  have Gfewest_moves : FnOk P w K mg base (L2N.CX P w) 10 ffewest_moves fdfewest_moves ["before", "after"] (spfewest_moves K) := okfewest_moves T Dfewest_moves
  obtain ⟨f_law_is_reason, fd_law_is_reason, D_law_is_reason⟩ := T.d__law_is_reason
  have G_law_is_reason : FnOk P w K mg base CX0 3 f_law_is_reason fd_law_is_reason ["told", "due"] (sp_law_is_reason K) := ok_law_is_reason T D_law_is_reason
  obtain ⟨f_law_rings, fd_law_rings, D_law_rings⟩ := T.d__law_rings
  have G_law_rings : FnOk P w K mg base CX0 1 f_law_rings fd_law_rings ["before", "after"] (sp_law_rings K) := ok_law_rings T D_law_rings
  obtain ⟨f_law_anchored, fd_law_anchored, D_law_anchored⟩ := T.d__law_anchored
  have G_law_anchored : FnOk P w K mg base CX0 8 f_law_anchored fd_law_anchored ["before", "after", "moved"] (sp_law_anchored K) := ok_law_anchored T D_law_anchored
  obtain ⟨f_law_judged, fd_law_judged, D_law_judged⟩ := T.d__law_judged
  have G_law_judged : FnOk P w K mg base CX0 9 f_law_judged fd_law_judged ["before", "after", "due"] (sp_law_judged K) := ok_law_judged T D_law_judged
  obtain ⟨f_law_raised, fd_law_raised, D_law_raised⟩ := T.d__law_raised
  have G_law_raised : FnOk P w K mg base CX0 11 f_law_raised fd_law_raised ["before", "after", "way", "due"] (sp_law_raised K) := ok_law_raised T D_law_raised
  obtain ⟨fobstacle, fdobstacle, Dobstacle⟩ := T.d_obstacle
  have Gobstacle : FnOk P w K mg base (L2N.CX P w) 8 fobstacle fdobstacle ["before", "after"] (spobstacle K) := okobstacle T Dobstacle
  obtain ⟨f_law_is_plan, fd_law_is_plan, D_law_is_plan⟩ := T.d__law_is_plan
  have G_law_is_plan : FnOk P w K mg base CX0 3 f_law_is_plan fd_law_is_plan ["told", "before", "after"] (sp_law_is_plan K) := ok_law_is_plan T D_law_is_plan
  obtain ⟨f_law_whole, fd_law_whole, D_law_whole⟩ := T.d__law_whole
  have G_law_whole : FnOk P w K mg base CX0 1 f_law_whole fd_law_whole ["told"] (sp_law_whole K) := ok_law_whole T D_law_whole
  refine D.F.ok sc_law_length (fun vs H Q E h => ?_) (fun cdv A outer s H vs Q E hr h => ?_)
  · obtain ⟨a, b, es, fs, rfl, _⟩ := h
    rfl
  · obtain ⟨a, b, es, fs, rfl, r, q⟩ := h
    have R := r.rn
    have e12 := r.ia.2.1
    refine ⟨_, (pss_cons (ps_set (i := 2) sc_law_length.nd rfl (.inl rfl) (pe_call G_law_obstacle (hr.mono (by decide)) (by rfl) D_law_obstacle.g D_law_obstacle.F.kp D_law_obstacle.b .nil pass0 (pa_cons (pv 0) (pa_cons (pv 1) pa_nil))))
    (pss_cons (ps_set (i := 3) sc_law_length.nd rfl (.inl rfl) (pe_call G_law_moving (hr.mono (by decide)) (by rfl) D_law_moving.g D_law_moving.F.kp D_law_moving.b .nil pass0 (pa_cons (pv 0) (pa_cons (pv 1) pa_nil))))
    (pss_cons (ps_if (pt_not (pt_val (pe_call G_law_rings_told (hr.mono (by decide)) (by rfl) D_law_rings_told.g D_law_rings_told.F.kp D_law_rings_told.b .nil pass0 (pa_cons (pv 0) (pa_cons (pv 1) (pa_cons (pv 3) (pa_cons (pe_call G_law_rings (hr.mono (by decide)) (by rfl) D_law_rings.g D_law_rings.F.kp D_law_rings.b .nil pass0 (pa_cons (pv 0) (pa_cons (pv 1) pa_nil))) pa_nil))))))) (pss_one (ps_ret (pe_un un_neg pe_int))) pss_nil)
    (pss_cons (ps_if (PW.pt (pw_or (pt_not (pt_val (pe_call G_law_anchored (hr.mono (by decide)) (by rfl) D_law_anchored.g D_law_anchored.F.kp D_law_anchored.b .nil pass0 (pa_cons (pv 0) (pa_cons (pv 1) (pa_cons (pv 3) pa_nil)))))) (pw_or1 (pt_not (pt_val (pe_call G_law_judged (hr.mono (by decide)) (by rfl) D_law_judged.g D_law_judged.F.kp D_law_judged.b .nil pass0 (pa_cons (pv 0) (pa_cons (pv 1) (pa_cons (pv 2) pa_nil))))))))) (pss_one (ps_ret (pe_un un_neg pe_int))) pss_nil)
    (pss_cons (ps_if (pt_cmpR op_isNQ (pv 2) pe_non (nomark _)) (pss_cons (ps_set (i := 4) sc_law_length.nd rfl (.inl rfl) (pe_call Gplan (hr.mono (by decide)) (by rfl) Dplan.g Dplan.F.kp Dplan.b .nil RN.passL (pa_cons (pv 0) (pa_cons (pv 1) pa_nil))))
    (pss_cons (ps_set (i := 5) sc_law_length.nd rfl (.inl rfl) (pe_call Gfewest_moves (hr.mono (by decide)) (by rfl) Dfewest_moves.g Dfewest_moves.F.kp Dfewest_moves.b .nil RN.passL (pa_cons (pv 0) (pa_cons (pv 1) pa_nil))))
    (pss_cons (ps_if (PW.pt (pw_or (pt_not (pt_val (pe_call G_law_is_plan (hr.mono (by decide)) (by rfl) D_law_is_plan.g D_law_is_plan.F.kp D_law_is_plan.b .nil pass0 (pa_cons (pv 4) (pa_cons (pv 0) (pa_cons (pv 1) pa_nil)))))) (pw_or (pt_not (pt_val (pe_call G_law_whole (hr.mono (by decide)) (by rfl) D_law_whole.g D_law_whole.F.kp D_law_whole.b .nil pass0 (pa_cons (pv 5) pa_nil)))) (pw_or1 (pt_cmpR op_ne (pv 5) (pe_callB (r := rLenQ K) call_lenQ (by rfl) T.b_len PySem.boot_len (pa_cons (pv 4) pa_nil)) (nomark _)))))) (pss_one (ps_ret (pe_un un_neg pe_int))) pss_nil)
    (pss_one (ps_ret (pe_ifExp (pt_cmpR op_isNQ (pe_call Gobstacle (hr.mono (by decide)) (by rfl) Dobstacle.g Dobstacle.F.kp Dobstacle.b .nil RN.passL (pa_cons (pv 0) (pa_cons (pv 1) pa_nil))) pe_non (nomark _)) (pv 5) (pe_un un_neg pe_int))))))) pss_nil)
    (pss_cons (ps_for PassesOwn.never rfl (pi_list (pe_lst (pa_cons pe_int (pa_cons pe_int pa_nil)))) (pg_name (i := 6) sc_law_length.nd rfl (.inl rfl)) (pss_one (ps_if (pt_not (pt_val (pe_call G_law_raised hr (by rfl) D_law_raised.g D_law_raised.F.kp D_law_raised.b .nil pass0 (pa_cons (pv 0) (pa_cons (pv 1) (pa_cons (pv 6) (pa_cons (pv 2) pa_nil))))))) (pss_one (ps_ret (pe_un un_neg pe_int))) pss_nil)))
    (pss_cons (ps_if (pt_cmpR op_eq (pe_ix (r := rIxT K) ix_tup (pv 2) pe_int (fun _ _ => rfl)) pe_str (nomark _)) (pss_one (ps_ret (pe_ifExp (pt_val (pe_call G_law_raised hr (by rfl) D_law_raised.g D_law_raised.F.kp D_law_raised.b .nil pass0 (pa_cons (pv 0) (pa_cons (pv 1) (pa_cons pe_int (pa_cons (pv 2) pa_nil)))))) (pe_un un_neg pe_int) (pe_un un_neg pe_int)))) pss_nil)
    (pss_one (ps_ret (pe_ifExp (pt_val (pe_call G_law_is_reason (hr.mono (by decide)) (by rfl) D_law_is_reason.g D_law_is_reason.F.kp D_law_is_reason.b .nil pass0 (pa_cons (pe_call Gobstacle (hr.mono (by decide)) (by rfl) Dobstacle.g Dobstacle.F.kp Dobstacle.b .nil RN.passL (pa_cons (pv 0) (pa_cons (pv 1) pa_nil))) (pa_cons (pv 2) pa_nil)))) (pe_un un_neg pe_int) (pe_un un_neg pe_int))))))))))), ?_⟩
    walk_at "rx"
    refine ⟨a, b, es, fs, rfl, r, fun v0 H1 S1 => ?_, fun H1 d vn S1 du => ?_⟩
    · rw [if_pos v0] at q
      have r1 := r.same S1
      walk_at "rx"
      refine ⟨a, b, es, fs, rfl, r1, fun H2 M ms S2 nM hM pm pw => ?_⟩
      have r2 := r1.same S2
      walk_at "rx"
      refine ⟨a, b, es, fs, rfl, r2, fun H3 C bs S3 nC hC tb => ?_⟩
      have r3 := r2.same S3
      have hM3 := S3 _ _ hM
      walk_at "rx"
      refine ⟨a, b, M, C, es, fs, ms, bs, rfl, r3, hM3, pm, pw, hC, tb, fun H4 S4 => ?_⟩
      walk_at "rx"
      refine ⟨a, b, M, es, fs, ms, rfl, r3.same S4, S4 _ _ hM3, pm, pw, fun H5 S5 => ?_⟩
      have r5 := (r3.same S4).same S5
      walk_at "rx"
      refine ⟨a, b, .non, es, fs, rfl, r5, .inl ⟨v0, rfl⟩, fun H6 S6 => ?_⟩
      have r6 := r5.same S6
      walk_at "rx"
      rw [decide_eq_true (show V.non = V.non from rfl)]
      walk_at "rx"
      refine ⟨.ref a, .ref b, rfl, .inl ⟨a, b, es, fs, rfl, rfl, r6, ⟨fun _ H7 l ps ml S7 hl tp pl => ?_, fun k v' n => absurd (v'.symm.trans v0) n, fun e => absurd e (by omega)⟩⟩⟩
      have r7 := r6.same S7
      walk_at "rx"
      refine ⟨.ref a, .ref b, rfl, .inl ⟨a, b, es, fs, rfl, rfl, r7, ⟨fun _ H8 S8 => ?_, fun k v' n => absurd (v'.symm.trans v0) n, fun e => absurd e (by omega)⟩⟩⟩
      have r8 := r7.same S8
      have hl8 := S8 _ _ hl
      walk_at "rx"
      refine ⟨l, a, b, ps, es, fs, ml, rfl, r8, hl8, TupsAt.same S8 tp, pl, fun H9 S9 => ?_⟩
      have hl9 := S9 _ _ hl8
      walk_at "rx"
      refine ⟨_, rfl, ?_⟩
      have lps : ps.length = ml.length := by
        have := tp.1
        unfold rows at this
        rw [List.length_map, stair_len ml es] at this
        exact this
      walk_at "rx"
      rw [decide_eq_true (show V.int ((((mvA es fs es.length).length + (rngs es fs).length : Nat) : Nat) : Int) = V.int (((ps.map V.ref).length : Nat) : Int) by rw [List.length_map, lps, pl.len])]
      walk_at "rx"
      refine ⟨.ref a, .ref b, rfl, .inl ⟨a, b, es, fs, rfl, rfl, r8.same S9, ⟨fun _ Ha Sa => ?_, fun k v' n => absurd (v'.symm.trans v0) n, fun e => absurd e (by omega)⟩⟩⟩
      walk_at "rx"
      rw [decide_eq_true (show V.non = V.non from rfl)]
      walk_at "rx"
      exact q _ (((((((((S1.trans S2).trans S3).trans S4).trans S5).trans S6).trans S7).trans S8).trans S9).trans Sa)
    · rw [if_neg vn] at q
      have r1 := r.same S1
      walk_at "rx"
      refine ⟨a, b, es, fs, rfl, r1, fun H2 M ms S2 nM hM pm pw => ?_⟩
      have r2 := r1.same S2
      walk_at "rx"
      refine ⟨a, b, es, fs, rfl, r2, fun H3 C bs S3 nC hC tb => ?_⟩
      have r3 := r2.same S3
      have hM3 := S3 _ _ hM
      walk_at "rx"
      refine ⟨a, b, M, C, es, fs, ms, bs, rfl, r3, hM3, pm, pw, hC, tb, fun H4 S4 => ?_⟩
      walk_at "rx"
      refine ⟨a, b, M, es, fs, ms, rfl, r3.same S4, S4 _ _ hM3, pm, pw, fun H5 S5 => ?_⟩
      have r5 := (r3.same S4).same S5
      have S25 := ((S2.trans S3).trans S4).trans S5
      walk_at "rx"
      refine ⟨a, b, .ref d, es, fs, rfl, r5, .inr ⟨d, rfl, vn, du.same S25⟩, fun H6 S6 => ?_⟩
      have S26 := S25.trans S6
      have S16 := S1.trans S26
      have d6 := du.same S26
      walk_at "rx"
      rw [decide_eq_false (show ¬ V.ref d = V.non from fun w => by cases w)]
      walk_at "rx"
      refine rd_newQ (by simp) fun H7 LL S7 nL hL => ?_
      have S17 := S16.trans S7
      walk_at "rx"
      refine fr_it (walk_list (xs := [V.int 0, V.int 1])) (fun i σ H' => ∃ (y6 : Option V), σ = [some (.ref a), some (.ref b), some (.ref d), some (.ref M), none, none, y6] ∧ Same H7 H') ⟨none, rfl, Same.refl _⟩ (fun i σ H' _ pp => ?_) ?_ ?_
      · obtain ⟨_, _, S⟩ := pp
        exact SqL.of (S _ _ hL)
      · rintro i x σ Ha Hb hi ⟨y6, rfl, Sa⟩ ⟨eH, ex⟩
        subst eH
        have hi2 : i < 2 := hi
        obtain ⟨k, rfl, hk⟩ : ∃ k : Nat, x = .int (k : Int) ∧ k < 2 := by
          have c : i = 0 ∨ i = 1 := by omega
          rcases c with rfl | rfl
          · cases ex; exact ⟨0, rfl, by decide⟩
          · cases ex; exact ⟨1, rfl, by decide⟩
        walk_at "rx"
        refine ⟨a, b, d, es, fs, k, rfl, (r.same S17).same Sa, vn, (d6.same S7).same Sa, .inl hk, fun Hc Sc => ?_⟩
        walk_at "rx"
        exact ⟨_, rfl, Sa.trans Sc⟩
      rintro σ Ha ⟨y6, rfl, Sa⟩
      have S1a := S17.trans Sa
      have ra := r.same S1a
      have da := (d6.same S7).same Sa
      rcases da with ⟨n4, rs⟩ | ⟨e4, t, cs, hd, ht, tc⟩
      · obtain ⟨s, tl, hx, hs⟩ : ∃ s tl, Ha d = some (.tup (.str s :: tl)) ∧ ¬ V.str s = V.str (Str.ofString "undecided") := by
          rcases rs with ⟨_, h⟩ | ⟨_, h⟩ | ⟨_, t, cs, h, _⟩
          · exact ⟨_, _, h, fun w => absurd (V.str.inj w) (by decide)⟩
          · exact ⟨_, _, h, fun w => absurd (V.str.inj w) (by decide)⟩
          · exact ⟨_, _, h, fun w => absurd (V.str.inj w) (by decide)⟩
        have a0 : atI (V.str s :: tl) (0 : Int) = some (.str s) := atI_nat (xs := V.str s :: tl) (j := 0) (v := V.str s) rfl
        walk_at "rx"
        refine ⟨.ref a, .ref b, rfl, .inl ⟨a, b, es, fs, rfl, rfl, ra, ⟨fun e => absurd e vn, fun k vk k0 k4 Hb p Sb hp => ?_, fun e => absurd e n4⟩⟩⟩
        walk_at "rx"
        refine ⟨p, d, es, fs, k, rfl, hp, by rw [← vk]; exact rs.same Sb, fun Hc Sc => ?_⟩
        walk_at "rx"
        exact q _ ((S1a.trans Sb).trans Sc)
      · walk_at "rx"
        rw [decide_eq_true (show V.str (Str.ofString "undecided") = V.str (Str.ofString "undecided") from rfl)]
        walk_at "rx"
        refine ⟨a, b, d, es, fs, 2, rfl, ra, vn, .inr ⟨e4, t, cs, hd, ht, tc⟩, .inr e4, fun Hb Sb => ?_⟩
        walk_at "rx"
        exact q _ (S1a.trans Sb)
def splaw (K : PySem.W.Frag) : Sp := fun vs H Q _ => ∃ (a : Addr) (ns : List Int), vs = [.ref a] ∧ SqL K H a (ns.map V.int) ∧ ns.length ≤ 63 ∧ ∀ H', Q (.bl true) H'
set_option maxHeartbeats 4000000 in
theorem oklaw (T : Top K mg) {f : Addr} {fd : FuncData} (D : Def K mg "law" slaw ["script"] f fd) : FnOk P w K mg base CX0 13 f fd ["script"] (splaw K) := by
  obtain ⟨f_law_box, fd_law_box, D_law_box⟩ := T.d__law_box
  have G_law_box : FnOk P w K mg base CX0 1 f_law_box fd_law_box ["script"] (sp_law_box K) := ok_law_box T D_law_box
  obtain ⟨f_law_pair, fd_law_pair, D_law_pair⟩ := T.d__law_pair
  have G_law_pair : FnOk P w K mg base CX0 3 f_law_pair fd_law_pair ["box"] (sp_law_pair K) := ok_law_pair T D_law_pair
  obtain ⟨f_law_length, fd_law_length, D_law_length⟩ := T.d__law_length
  have G_law_length : FnOk P w K mg base CX0 12 f_law_length fd_law_length ["before", "after"] (sp_law_length K) := ok_law_length T D_law_length
  refine D.F.ok sclaw (fun vs H Q E h => ?_) (fun cdv A outer s H vs Q E hr h => ?_)
  · obtain ⟨a, ns, rfl, _⟩ := h
    rfl
  · obtain ⟨a, ns, rfl, hS, hl, q⟩ := h
    refine ⟨_, (pss_cons (ps_set (i := 1) sclaw.nd rfl (.inl rfl) (pe_call G_law_box (hr.mono (by decide)) (by rfl) D_law_box.g D_law_box.F.kp D_law_box.b .nil pass0 (pa_cons (pv 0) pa_nil)))
    (pss_cons (ps_asg (pe_call G_law_pair (hr.mono (by decide)) (by rfl) D_law_pair.g D_law_pair.F.kp D_law_pair.b .nil pass0 (pa_cons (pv 1) pa_nil)) (pg_tup rfl (pgs_cons (pg_name (i := 2) sclaw.nd rfl (.inl rfl)) (pgs_cons (pg_name (i := 3) sclaw.nd rfl (.inl rfl)) pgs_nil))))
    (pss_cons (ps_set (i := 4) sclaw.nd rfl (.inl rfl) (pe_call G_law_length hr (by rfl) D_law_length.g D_law_length.F.kp D_law_length.b .nil pass0 (pa_cons (pv 2) (pa_cons (pv 3) pa_nil))))
    (pss_cons (ps_set (i := 5) sclaw.nd rfl (.inl rfl) (pe_call G_law_length hr (by rfl) D_law_length.g D_law_length.F.kp D_law_length.b .nil pass0 (pa_cons (pv 3) (pa_cons (pv 2) pa_nil))))
    (pss_one (ps_ret (pe_and (pe_cmpR op_gt (pv 4) (pe_un un_neg pe_int) (nomark _)) (pe_one (pe_cmpR op_eq (pv 4) (pv 5) (nomark _)))))))))), ?_⟩
    walk_at "rx"
    refine ⟨a, ns, rfl, hS, hl, fun H1 B hB i1 S1 => ?_⟩
    walk_at "rx"
    refine ⟨B, rfl, hB, i1, fun H2 t b c es fs w2 ht r => ?_⟩
    walk_at "rx"
    refine ⟨b, c, es, fs, rfl, r, fun H3 S3 => ?_⟩
    have r3 := r.same S3
    have r3s : RP H3 c b fs es := ⟨r3.gb, r3.ga, r3.ib, r3.ia, r3.rn.swap⟩
    walk_at "rx"
    refine ⟨c, b, fs, es, rfl, r3s, fun H4 S4 => ?_⟩
    rw [vdt_swap r.rn, mv_swap r.rn, rngs_swap r.rn]
    have g : (-2 : Int) < (if vdt es fs = 0 then (((mvA es fs es.length).length + (rngs es fs).length : Nat) : Int) else -1) := by
      by_cases z : vdt es fs = 0
      · rw [if_pos z]; omega
      · rw [if_neg z]; decide
    walk_at "rx"
    rw [decide_eq_true rfl]
    exact q _
end
theorem all_mk {l : PySem.W.OpenLaw} {w : World} {K : PySem.W.Frag} {h : Heap} {mg : Str → Option Value} {fa : Addr} (X : K.In h) (G : h.Ns mainGlobals mg) (hfa : mg "law" = some (.ref fa))
    {f0 : Addr} {od0 an0 : Option Addr} {sl0 : Array (Option Value)} {oc0 kV0 dc0 pm0 cd0 ct0 : Value}
    (a0 : PySem.W.nsIn K mainGlobals "check_image" = some (some (.ref f0))) (l0 : K.lookup f0 = some ⟨oc0, od0, .func (PySem.W.fnOf "check_image" "check_image" (defArgs scheck_image) (defBody scheck_image) (defScope scheck_image) .none kV0 dc0 pm0 an0 cd0 ct0), sl0⟩) (c0 : PySem.W.codeIn K cd0 "check_image" = true) (k0 : PySem.W.keepIn K (.ref f0) = true)
    {f1 : Addr} {od1 an1 : Option Addr} {sl1 : Array (Option Value)} {oc1 kV1 dc1 pm1 cd1 ct1 : Value}
    (a1 : PySem.W.nsIn K mainGlobals "look" = some (some (.ref f1))) (l1 : K.lookup f1 = some ⟨oc1, od1, .func (PySem.W.fnOf "look" "look" (defArgs slook) (defBody slook) (defScope slook) .none kV1 dc1 pm1 an1 cd1 ct1), sl1⟩) (c1 : PySem.W.codeIn K cd1 "look" = true) (k1 : PySem.W.keepIn K (.ref f1) = true)
    {f2 : Addr} {od2 an2 : Option Addr} {sl2 : Array (Option Value)} {oc2 kV2 dc2 pm2 cd2 ct2 : Value}
    (a2 : PySem.W.nsIn K mainGlobals "_sign" = some (some (.ref f2))) (l2 : K.lookup f2 = some ⟨oc2, od2, .func (PySem.W.fnOf "_sign" "_sign" (defArgs s_sign) (defBody s_sign) (defScope s_sign) .none kV2 dc2 pm2 an2 cd2 ct2), sl2⟩) (c2 : PySem.W.codeIn K cd2 "_sign" = true) (k2 : PySem.W.keepIn K (.ref f2) = true)
    {f3 : Addr} {od3 an3 : Option Addr} {sl3 : Array (Option Value)} {oc3 kV3 dc3 pm3 cd3 ct3 : Value}
    (a3 : PySem.W.nsIn K mainGlobals "matches" = some (some (.ref f3))) (l3 : K.lookup f3 = some ⟨oc3, od3, .func (PySem.W.fnOf "matches" "matches" (defArgs smatches) (defBody smatches) (defScope smatches) .none kV3 dc3 pm3 an3 cd3 ct3), sl3⟩) (c3 : PySem.W.codeIn K cd3 "matches" = true) (k3 : PySem.W.keepIn K (.ref f3) = true)
    {f4 : Addr} {od4 an4 : Option Addr} {sl4 : Array (Option Value)} {oc4 kV4 dc4 pm4 cd4 ct4 : Value}
    (a4 : PySem.W.nsIn K mainGlobals "fires" = some (some (.ref f4))) (l4 : K.lookup f4 = some ⟨oc4, od4, .func (PySem.W.fnOf "fires" "fires" (defArgs sfires) (defBody sfires) (defScope sfires) .none kV4 dc4 pm4 an4 cd4 ct4), sl4⟩) (c4 : PySem.W.codeIn K cd4 "fires" = true) (k4 : PySem.W.keepIn K (.ref f4) = true)
    {f5 : Addr} {od5 an5 : Option Addr} {sl5 : Array (Option Value)} {oc5 kV5 dc5 pm5 cd5 ct5 : Value}
    (a5 : PySem.W.nsIn K mainGlobals "sources" = some (some (.ref f5))) (l5 : K.lookup f5 = some ⟨oc5, od5, .func (PySem.W.fnOf "sources" "sources" (defArgs ssources) (defBody ssources) (defScope ssources) .none kV5 dc5 pm5 an5 cd5 ct5), sl5⟩) (c5 : PySem.W.codeIn K cd5 "sources" = true) (k5 : PySem.W.keepIn K (.ref f5) = true)
    {f6 : Addr} {od6 an6 : Option Addr} {sl6 : Array (Option Value)} {oc6 kV6 dc6 pm6 cd6 ct6 : Value}
    (a6 : PySem.W.nsIn K mainGlobals "kept_blocks" = some (some (.ref f6))) (l6 : K.lookup f6 = some ⟨oc6, od6, .func (PySem.W.fnOf "kept_blocks" "kept_blocks" (defArgs skept_blocks) (defBody skept_blocks) (defScope skept_blocks) .none kV6 dc6 pm6 an6 cd6 ct6), sl6⟩) (c6 : PySem.W.codeIn K cd6 "kept_blocks" = true) (k6 : PySem.W.keepIn K (.ref f6) = true)
    {f7 : Addr} {od7 an7 : Option Addr} {sl7 : Array (Option Value)} {oc7 kV7 dc7 pm7 cd7 ct7 : Value}
    (a7 : PySem.W.nsIn K mainGlobals "apply_line" = some (some (.ref f7))) (l7 : K.lookup f7 = some ⟨oc7, od7, .func (PySem.W.fnOf "apply_line" "apply_line" (defArgs sapply_line) (defBody sapply_line) (defScope sapply_line) .none kV7 dc7 pm7 an7 cd7 ct7), sl7⟩) (c7 : PySem.W.codeIn K cd7 "apply_line" = true) (k7 : PySem.W.keepIn K (.ref f7) = true)
    {f8 : Addr} {od8 an8 : Option Addr} {sl8 : Array (Option Value)} {oc8 kV8 dc8 pm8 cd8 ct8 : Value}
    (a8 : PySem.W.nsIn K mainGlobals "_fits" = some (some (.ref f8))) (l8 : K.lookup f8 = some ⟨oc8, od8, .func (PySem.W.fnOf "_fits" "_fits" (defArgs s_fits) (defBody s_fits) (defScope s_fits) .none kV8 dc8 pm8 an8 cd8 ct8), sl8⟩) (c8 : PySem.W.codeIn K cd8 "_fits" = true) (k8 : PySem.W.keepIn K (.ref f8) = true)
    {f9 : Addr} {od9 an9 : Option Addr} {sl9 : Array (Option Value)} {oc9 kV9 dc9 pm9 cd9 ct9 : Value}
    (a9 : PySem.W.nsIn K mainGlobals "followed" = some (some (.ref f9))) (l9 : K.lookup f9 = some ⟨oc9, od9, .func (PySem.W.fnOf "followed" "followed" (defArgs sfollowed) (defBody sfollowed) (defScope sfollowed) .none kV9 dc9 pm9 an9 cd9 ct9), sl9⟩) (c9 : PySem.W.codeIn K cd9 "followed" = true) (k9 : PySem.W.keepIn K (.ref f9) = true)
    {f10 : Addr} {od10 an10 : Option Addr} {sl10 : Array (Option Value)} {oc10 kV10 dc10 pm10 cd10 ct10 : Value}
    (a10 : PySem.W.nsIn K mainGlobals "all_rings" = some (some (.ref f10))) (l10 : K.lookup f10 = some ⟨oc10, od10, .func (PySem.W.fnOf "all_rings" "all_rings" (defArgs sall_rings) (defBody sall_rings) (defScope sall_rings) .none kV10 dc10 pm10 an10 cd10 ct10), sl10⟩) (c10 : PySem.W.codeIn K cd10 "all_rings" = true) (k10 : PySem.W.keepIn K (.ref f10) = true)
    {f11 : Addr} {od11 an11 : Option Addr} {sl11 : Array (Option Value)} {oc11 kV11 dc11 pm11 cd11 ct11 : Value}
    (a11 : PySem.W.nsIn K mainGlobals "check_renaming" = some (some (.ref f11))) (l11 : K.lookup f11 = some ⟨oc11, od11, .func (PySem.W.fnOf "check_renaming" "check_renaming" (defArgs scheck_renaming) (defBody scheck_renaming) (defScope scheck_renaming) .none kV11 dc11 pm11 an11 cd11 ct11), sl11⟩) (c11 : PySem.W.codeIn K cd11 "check_renaming" = true) (k11 : PySem.W.keepIn K (.ref f11) = true)
    {f12 : Addr} {od12 an12 : Option Addr} {sl12 : Array (Option Value)} {oc12 kV12 dc12 pm12 cd12 ct12 : Value}
    (a12 : PySem.W.nsIn K mainGlobals "chains" = some (some (.ref f12))) (l12 : K.lookup f12 = some ⟨oc12, od12, .func (PySem.W.fnOf "chains" "chains" (defArgs schains) (defBody schains) (defScope schains) .none kV12 dc12 pm12 an12 cd12 ct12), sl12⟩) (c12 : PySem.W.codeIn K cd12 "chains" = true) (k12 : PySem.W.keepIn K (.ref f12) = true)
    {f13 : Addr} {od13 an13 : Option Addr} {sl13 : Array (Option Value)} {oc13 kV13 dc13 pm13 cd13 ct13 : Value}
    (a13 : PySem.W.nsIn K mainGlobals "rings" = some (some (.ref f13))) (l13 : K.lookup f13 = some ⟨oc13, od13, .func (PySem.W.fnOf "rings" "rings" (defArgs srings) (defBody srings) (defScope srings) .none kV13 dc13 pm13 an13 cd13 ct13), sl13⟩) (c13 : PySem.W.codeIn K cd13 "rings" = true) (k13 : PySem.W.keepIn K (.ref f13) = true)
    {f14 : Addr} {od14 an14 : Option Addr} {sl14 : Array (Option Value)} {oc14 kV14 dc14 pm14 cd14 ct14 : Value}
    (a14 : PySem.W.nsIn K mainGlobals "moving" = some (some (.ref f14))) (l14 : K.lookup f14 = some ⟨oc14, od14, .func (PySem.W.fnOf "moving" "moving" (defArgs smoving) (defBody smoving) (defScope smoving) .none kV14 dc14 pm14 an14 cd14 ct14), sl14⟩) (c14 : PySem.W.codeIn K cd14 "moving" = true) (k14 : PySem.W.keepIn K (.ref f14) = true)
    {f15 : Addr} {od15 an15 : Option Addr} {sl15 : Array (Option Value)} {oc15 kV15 dc15 pm15 cd15 ct15 : Value}
    (a15 : PySem.W.nsIn K mainGlobals "_leads" = some (some (.ref f15))) (l15 : K.lookup f15 = some ⟨oc15, od15, .func (PySem.W.fnOf "_leads" "_leads" (defArgs s_leads) (defBody s_leads) (defScope s_leads) .none kV15 dc15 pm15 an15 cd15 ct15), sl15⟩) (c15 : PySem.W.codeIn K cd15 "_leads" = true) (k15 : PySem.W.keepIn K (.ref f15) = true)
    {f16 : Addr} {od16 an16 : Option Addr} {sl16 : Array (Option Value)} {oc16 kV16 dc16 pm16 cd16 ct16 : Value}
    (a16 : PySem.W.nsIn K mainGlobals "obstacle" = some (some (.ref f16))) (l16 : K.lookup f16 = some ⟨oc16, od16, .func (PySem.W.fnOf "obstacle" "obstacle" (defArgs sobstacle) (defBody sobstacle) (defScope sobstacle) .none kV16 dc16 pm16 an16 cd16 ct16), sl16⟩) (c16 : PySem.W.codeIn K cd16 "obstacle" = true) (k16 : PySem.W.keepIn K (.ref f16) = true)
    {f17 : Addr} {od17 an17 : Option Addr} {sl17 : Array (Option Value)} {oc17 kV17 dc17 pm17 cd17 ct17 : Value}
    (a17 : PySem.W.nsIn K mainGlobals "judge_obstacle" = some (some (.ref f17))) (l17 : K.lookup f17 = some ⟨oc17, od17, .func (PySem.W.fnOf "judge_obstacle" "judge_obstacle" (defArgs sjudge_obstacle) (defBody sjudge_obstacle) (defScope sjudge_obstacle) .none kV17 dc17 pm17 an17 cd17 ct17), sl17⟩) (c17 : PySem.W.codeIn K cd17 "judge_obstacle" = true) (k17 : PySem.W.keepIn K (.ref f17) = true)
    {f18 : Addr} {od18 an18 : Option Addr} {sl18 : Array (Option Value)} {oc18 kV18 dc18 pm18 cd18 ct18 : Value}
    (a18 : PySem.W.nsIn K mainGlobals "plan" = some (some (.ref f18))) (l18 : K.lookup f18 = some ⟨oc18, od18, .func (PySem.W.fnOf "plan" "plan" (defArgs splan) (defBody splan) (defScope splan) .none kV18 dc18 pm18 an18 cd18 ct18), sl18⟩) (c18 : PySem.W.codeIn K cd18 "plan" = true) (k18 : PySem.W.keepIn K (.ref f18) = true)
    {f19 : Addr} {od19 an19 : Option Addr} {sl19 : Array (Option Value)} {oc19 kV19 dc19 pm19 cd19 ct19 : Value}
    (a19 : PySem.W.nsIn K mainGlobals "fewest_moves" = some (some (.ref f19))) (l19 : K.lookup f19 = some ⟨oc19, od19, .func (PySem.W.fnOf "fewest_moves" "fewest_moves" (defArgs sfewest_moves) (defBody sfewest_moves) (defScope sfewest_moves) .none kV19 dc19 pm19 an19 cd19 ct19), sl19⟩) (c19 : PySem.W.codeIn K cd19 "fewest_moves" = true) (k19 : PySem.W.keepIn K (.ref f19) = true)
    {f20 : Addr} {od20 an20 : Option Addr} {sl20 : Array (Option Value)} {oc20 kV20 dc20 pm20 cd20 ct20 : Value}
    (a20 : PySem.W.nsIn K mainGlobals "_check_free" = some (some (.ref f20))) (l20 : K.lookup f20 = some ⟨oc20, od20, .func (PySem.W.fnOf "_check_free" "_check_free" (defArgs s_check_free) (defBody s_check_free) (defScope s_check_free) .none kV20 dc20 pm20 an20 cd20 ct20), sl20⟩) (c20 : PySem.W.codeIn K cd20 "_check_free" = true) (k20 : PySem.W.keepIn K (.ref f20) = true)
    {f21 : Addr} {od21 an21 : Option Addr} {sl21 : Array (Option Value)} {oc21 kV21 dc21 pm21 cd21 ct21 : Value}
    (a21 : PySem.W.nsIn K mainGlobals "_is_crowded" = some (some (.ref f21))) (l21 : K.lookup f21 = some ⟨oc21, od21, .func (PySem.W.fnOf "_is_crowded" "_is_crowded" (defArgs s_is_crowded) (defBody s_is_crowded) (defScope s_is_crowded) .none kV21 dc21 pm21 an21 cd21 ct21), sl21⟩) (c21 : PySem.W.codeIn K cd21 "_is_crowded" = true) (k21 : PySem.W.keepIn K (.ref f21) = true)
    {f22 : Addr} {od22 an22 : Option Addr} {sl22 : Array (Option Value)} {oc22 kV22 dc22 pm22 cd22 ct22 : Value}
    (a22 : PySem.W.nsIn K mainGlobals "_is_of_one_kind" = some (some (.ref f22))) (l22 : K.lookup f22 = some ⟨oc22, od22, .func (PySem.W.fnOf "_is_of_one_kind" "_is_of_one_kind" (defArgs s_is_of_one_kind) (defBody s_is_of_one_kind) (defScope s_is_of_one_kind) .none kV22 dc22 pm22 an22 cd22 ct22), sl22⟩) (c22 : PySem.W.codeIn K cd22 "_is_of_one_kind" = true) (k22 : PySem.W.keepIn K (.ref f22) = true)
    {f23 : Addr} {od23 an23 : Option Addr} {sl23 : Array (Option Value)} {oc23 kV23 dc23 pm23 cd23 ct23 : Value}
    (a23 : PySem.W.nsIn K mainGlobals "_are_rings" = some (some (.ref f23))) (l23 : K.lookup f23 = some ⟨oc23, od23, .func (PySem.W.fnOf "_are_rings" "_are_rings" (defArgs s_are_rings) (defBody s_are_rings) (defScope s_are_rings) .none kV23 dc23 pm23 an23 cd23 ct23), sl23⟩) (c23 : PySem.W.codeIn K cd23 "_are_rings" = true) (k23 : PySem.W.keepIn K (.ref f23) = true)
    {f24 : Addr} {od24 an24 : Option Addr} {sl24 : Array (Option Value)} {oc24 kV24 dc24 pm24 cd24 ct24 : Value}
    (a24 : PySem.W.nsIn K mainGlobals "_moves" = some (some (.ref f24))) (l24 : K.lookup f24 = some ⟨oc24, od24, .func (PySem.W.fnOf "_moves" "_moves" (defArgs s_moves) (defBody s_moves) (defScope s_moves) .none kV24 dc24 pm24 an24 cd24 ct24), sl24⟩) (c24 : PySem.W.codeIn K cd24 "_moves" = true) (k24 : PySem.W.keepIn K (.ref f24) = true)
    {f25 : Addr} {od25 an25 : Option Addr} {sl25 : Array (Option Value)} {oc25 kV25 dc25 pm25 cd25 ct25 : Value}
    (a25 : PySem.W.nsIn K mainGlobals "_recolored" = some (some (.ref f25))) (l25 : K.lookup f25 = some ⟨oc25, od25, .func (PySem.W.fnOf "_recolored" "_recolored" (defArgs s_recolored) (defBody s_recolored) (defScope s_recolored) .none kV25 dc25 pm25 an25 cd25 ct25), sl25⟩) (c25 : PySem.W.codeIn K cd25 "_recolored" = true) (k25 : PySem.W.keepIn K (.ref f25) = true)
    {f26 : Addr} {od26 an26 : Option Addr} {sl26 : Array (Option Value)} {oc26 kV26 dc26 pm26 cd26 ct26 : Value}
    (a26 : PySem.W.nsIn K mainGlobals "_around" = some (some (.ref f26))) (l26 : K.lookup f26 = some ⟨oc26, od26, .func (PySem.W.fnOf "_around" "_around" (defArgs s_around) (defBody s_around) (defScope s_around) .none kV26 dc26 pm26 an26 cd26 ct26), sl26⟩) (c26 : PySem.W.codeIn K cd26 "_around" = true) (k26 : PySem.W.keepIn K (.ref f26) = true)
    {f27 : Addr} {od27 an27 : Option Addr} {sl27 : Array (Option Value)} {oc27 kV27 dc27 pm27 cd27 ct27 : Value}
    (a27 : PySem.W.nsIn K mainGlobals "_along" = some (some (.ref f27))) (l27 : K.lookup f27 = some ⟨oc27, od27, .func (PySem.W.fnOf "_along" "_along" (defArgs s_along) (defBody s_along) (defScope s_along) .none kV27 dc27 pm27 an27 cd27 ct27), sl27⟩) (c27 : PySem.W.codeIn K cd27 "_along" = true) (k27 : PySem.W.keepIn K (.ref f27) = true)
    {f28 : Addr} {od28 an28 : Option Addr} {sl28 : Array (Option Value)} {oc28 kV28 dc28 pm28 cd28 ct28 : Value}
    (a28 : PySem.W.nsIn K mainGlobals "_staircase" = some (some (.ref f28))) (l28 : K.lookup f28 = some ⟨oc28, od28, .func (PySem.W.fnOf "_staircase" "_staircase" (defArgs s_staircase) (defBody s_staircase) (defScope s_staircase) .none kV28 dc28 pm28 an28 cd28 ct28), sl28⟩) (c28 : PySem.W.codeIn K cd28 "_staircase" = true) (k28 : PySem.W.keepIn K (.ref f28) = true)
    {f29 : Addr} {od29 an29 : Option Addr} {sl29 : Array (Option Value)} {oc29 kV29 dc29 pm29 cd29 ct29 : Value}
    (a29 : PySem.W.nsIn K mainGlobals "anchors" = some (some (.ref f29))) (l29 : K.lookup f29 = some ⟨oc29, od29, .func (PySem.W.fnOf "anchors" "anchors" (defArgs sanchors) (defBody sanchors) (defScope sanchors) .none kV29 dc29 pm29 an29 cd29 ct29), sl29⟩) (c29 : PySem.W.codeIn K cd29 "anchors" = true) (k29 : PySem.W.keepIn K (.ref f29) = true)
    {f30 : Addr} {od30 an30 : Option Addr} {sl30 : Array (Option Value)} {oc30 kV30 dc30 pm30 cd30 ct30 : Value}
    (a30 : PySem.W.nsIn K mainGlobals "unanchored" = some (some (.ref f30))) (l30 : K.lookup f30 = some ⟨oc30, od30, .func (PySem.W.fnOf "unanchored" "unanchored" (defArgs sunanchored) (defBody sunanchored) (defScope sunanchored) .none kV30 dc30 pm30 an30 cd30 ct30), sl30⟩) (c30 : PySem.W.codeIn K cd30 "unanchored" = true) (k30 : PySem.W.keepIn K (.ref f30) = true)
    {f31 : Addr} {od31 an31 : Option Addr} {sl31 : Array (Option Value)} {oc31 kV31 dc31 pm31 cd31 ct31 : Value}
    (a31 : PySem.W.nsIn K mainGlobals "replace_script" = some (some (.ref f31))) (l31 : K.lookup f31 = some ⟨oc31, od31, .func (PySem.W.fnOf "replace_script" "replace_script" (defArgs sreplace_script) (defBody sreplace_script) (defScope sreplace_script) .none kV31 dc31 pm31 an31 cd31 ct31), sl31⟩) (c31 : PySem.W.codeIn K cd31 "replace_script" = true) (k31 : PySem.W.keepIn K (.ref f31) = true)
    {f32 : Addr} {od32 an32 : Option Addr} {sl32 : Array (Option Value)} {oc32 kV32 dc32 pm32 cd32 ct32 : Value}
    (a32 : PySem.W.nsIn K mainGlobals "_check_images" = some (some (.ref f32))) (l32 : K.lookup f32 = some ⟨oc32, od32, .func (PySem.W.fnOf "_check_images" "_check_images" (defArgs s_check_images) (defBody s_check_images) (defScope s_check_images) .none kV32 dc32 pm32 an32 cd32 ct32), sl32⟩) (c32 : PySem.W.codeIn K cd32 "_check_images" = true) (k32 : PySem.W.keepIn K (.ref f32) = true)
    {f33 : Addr} {od33 an33 : Option Addr} {sl33 : Array (Option Value)} {oc33 kV33 dc33 pm33 cd33 ct33 : Value}
    (a33 : PySem.W.nsIn K mainGlobals "_write" = some (some (.ref f33))) (l33 : K.lookup f33 = some ⟨oc33, od33, .func (PySem.W.fnOf "_write" "_write" (defArgs s_write) (defBody s_write) (defScope s_write) .none kV33 dc33 pm33 an33 cd33 ct33), sl33⟩) (c33 : PySem.W.codeIn K cd33 "_write" = true) (k33 : PySem.W.keepIn K (.ref f33) = true)
    {f34 : Addr} {od34 an34 : Option Addr} {sl34 : Array (Option Value)} {oc34 kV34 dc34 pm34 cd34 ct34 : Value}
    (a34 : PySem.W.nsIn K mainGlobals "_law_box" = some (some (.ref f34))) (l34 : K.lookup f34 = some ⟨oc34, od34, .func (PySem.W.fnOf "_law_box" "_law_box" (defArgs s_law_box) (defBody s_law_box) (defScope s_law_box) .none kV34 dc34 pm34 an34 cd34 ct34), sl34⟩) (c34 : PySem.W.codeIn K cd34 "_law_box" = true) (k34 : PySem.W.keepIn K (.ref f34) = true)
    {f35 : Addr} {od35 an35 : Option Addr} {sl35 : Array (Option Value)} {oc35 kV35 dc35 pm35 cd35 ct35 : Value}
    (a35 : PySem.W.nsIn K mainGlobals "_law_take" = some (some (.ref f35))) (l35 : K.lookup f35 = some ⟨oc35, od35, .func (PySem.W.fnOf "_law_take" "_law_take" (defArgs s_law_take) (defBody s_law_take) (defScope s_law_take) .none kV35 dc35 pm35 an35 cd35 ct35), sl35⟩) (c35 : PySem.W.codeIn K cd35 "_law_take" = true) (k35 : PySem.W.keepIn K (.ref f35) = true)
    {f36 : Addr} {od36 an36 : Option Addr} {sl36 : Array (Option Value)} {oc36 kV36 dc36 pm36 cd36 ct36 : Value}
    (a36 : PySem.W.nsIn K mainGlobals "_law_whole" = some (some (.ref f36))) (l36 : K.lookup f36 = some ⟨oc36, od36, .func (PySem.W.fnOf "_law_whole" "_law_whole" (defArgs s_law_whole) (defBody s_law_whole) (defScope s_law_whole) .none kV36 dc36 pm36 an36 cd36 ct36), sl36⟩) (c36 : PySem.W.codeIn K cd36 "_law_whole" = true) (k36 : PySem.W.keepIn K (.ref f36) = true)
    {f37 : Addr} {od37 an37 : Option Addr} {sl37 : Array (Option Value)} {oc37 kV37 dc37 pm37 cd37 ct37 : Value}
    (a37 : PySem.W.nsIn K mainGlobals "_law_row" = some (some (.ref f37))) (l37 : K.lookup f37 = some ⟨oc37, od37, .func (PySem.W.fnOf "_law_row" "_law_row" (defArgs s_law_row) (defBody s_law_row) (defScope s_law_row) .none kV37 dc37 pm37 an37 cd37 ct37), sl37⟩) (c37 : PySem.W.codeIn K cd37 "_law_row" = true) (k37 : PySem.W.keepIn K (.ref f37) = true)
    {f38 : Addr} {od38 an38 : Option Addr} {sl38 : Array (Option Value)} {oc38 kV38 dc38 pm38 cd38 ct38 : Value}
    (a38 : PySem.W.nsIn K mainGlobals "_law_fits" = some (some (.ref f38))) (l38 : K.lookup f38 = some ⟨oc38, od38, .func (PySem.W.fnOf "_law_fits" "_law_fits" (defArgs s_law_fits) (defBody s_law_fits) (defScope s_law_fits) .none kV38 dc38 pm38 an38 cd38 ct38), sl38⟩) (c38 : PySem.W.codeIn K cd38 "_law_fits" = true) (k38 : PySem.W.keepIn K (.ref f38) = true)
    {f39 : Addr} {od39 an39 : Option Addr} {sl39 : Array (Option Value)} {oc39 kV39 dc39 pm39 cd39 ct39 : Value}
    (a39 : PySem.W.nsIn K mainGlobals "_law_done" = some (some (.ref f39))) (l39 : K.lookup f39 = some ⟨oc39, od39, .func (PySem.W.fnOf "_law_done" "_law_done" (defArgs s_law_done) (defBody s_law_done) (defScope s_law_done) .none kV39 dc39 pm39 an39 cd39 ct39), sl39⟩) (c39 : PySem.W.codeIn K cd39 "_law_done" = true) (k39 : PySem.W.keepIn K (.ref f39) = true)
    {f40 : Addr} {od40 an40 : Option Addr} {sl40 : Array (Option Value)} {oc40 kV40 dc40 pm40 cd40 ct40 : Value}
    (a40 : PySem.W.nsIn K mainGlobals "_law_view" = some (some (.ref f40))) (l40 : K.lookup f40 = some ⟨oc40, od40, .func (PySem.W.fnOf "_law_view" "_law_view" (defArgs s_law_view) (defBody s_law_view) (defScope s_law_view) .none kV40 dc40 pm40 an40 cd40 ct40), sl40⟩) (c40 : PySem.W.codeIn K cd40 "_law_view" = true) (k40 : PySem.W.keepIn K (.ref f40) = true)
    {f41 : Addr} {od41 an41 : Option Addr} {sl41 : Array (Option Value)} {oc41 kV41 dc41 pm41 cd41 ct41 : Value}
    (a41 : PySem.W.nsIn K mainGlobals "_law_mixture" = some (some (.ref f41))) (l41 : K.lookup f41 = some ⟨oc41, od41, .func (PySem.W.fnOf "_law_mixture" "_law_mixture" (defArgs s_law_mixture) (defBody s_law_mixture) (defScope s_law_mixture) .none kV41 dc41 pm41 an41 cd41 ct41), sl41⟩) (c41 : PySem.W.codeIn K cd41 "_law_mixture" = true) (k41 : PySem.W.keepIn K (.ref f41) = true)
    {f42 : Addr} {od42 an42 : Option Addr} {sl42 : Array (Option Value)} {oc42 kV42 dc42 pm42 cd42 ct42 : Value}
    (a42 : PySem.W.nsIn K mainGlobals "_law_values" = some (some (.ref f42))) (l42 : K.lookup f42 = some ⟨oc42, od42, .func (PySem.W.fnOf "_law_values" "_law_values" (defArgs s_law_values) (defBody s_law_values) (defScope s_law_values) .none kV42 dc42 pm42 an42 cd42 ct42), sl42⟩) (c42 : PySem.W.codeIn K cd42 "_law_values" = true) (k42 : PySem.W.keepIn K (.ref f42) = true)
    {f43 : Addr} {od43 an43 : Option Addr} {sl43 : Array (Option Value)} {oc43 kV43 dc43 pm43 cd43 ct43 : Value}
    (a43 : PySem.W.nsIn K mainGlobals "_law_rings" = some (some (.ref f43))) (l43 : K.lookup f43 = some ⟨oc43, od43, .func (PySem.W.fnOf "_law_rings" "_law_rings" (defArgs s_law_rings) (defBody s_law_rings) (defScope s_law_rings) .none kV43 dc43 pm43 an43 cd43 ct43), sl43⟩) (c43 : PySem.W.codeIn K cd43 "_law_rings" = true) (k43 : PySem.W.keepIn K (.ref f43) = true)
    {f44 : Addr} {od44 an44 : Option Addr} {sl44 : Array (Option Value)} {oc44 kV44 dc44 pm44 cd44 ct44 : Value}
    (a44 : PySem.W.nsIn K mainGlobals "_law_moving" = some (some (.ref f44))) (l44 : K.lookup f44 = some ⟨oc44, od44, .func (PySem.W.fnOf "_law_moving" "_law_moving" (defArgs s_law_moving) (defBody s_law_moving) (defScope s_law_moving) .none kV44 dc44 pm44 an44 cd44 ct44), sl44⟩) (c44 : PySem.W.codeIn K cd44 "_law_moving" = true) (k44 : PySem.W.keepIn K (.ref f44) = true)
    {f45 : Addr} {od45 an45 : Option Addr} {sl45 : Array (Option Value)} {oc45 kV45 dc45 pm45 cd45 ct45 : Value}
    (a45 : PySem.W.nsIn K mainGlobals "_law_obstacle" = some (some (.ref f45))) (l45 : K.lookup f45 = some ⟨oc45, od45, .func (PySem.W.fnOf "_law_obstacle" "_law_obstacle" (defArgs s_law_obstacle) (defBody s_law_obstacle) (defScope s_law_obstacle) .none kV45 dc45 pm45 an45 cd45 ct45), sl45⟩) (c45 : PySem.W.codeIn K cd45 "_law_obstacle" = true) (k45 : PySem.W.keepIn K (.ref f45) = true)
    {f46 : Addr} {od46 an46 : Option Addr} {sl46 : Array (Option Value)} {oc46 kV46 dc46 pm46 cd46 ct46 : Value}
    (a46 : PySem.W.nsIn K mainGlobals "_law_is_move" = some (some (.ref f46))) (l46 : K.lookup f46 = some ⟨oc46, od46, .func (PySem.W.fnOf "_law_is_move" "_law_is_move" (defArgs s_law_is_move) (defBody s_law_is_move) (defScope s_law_is_move) .none kV46 dc46 pm46 an46 cd46 ct46), sl46⟩) (c46 : PySem.W.codeIn K cd46 "_law_is_move" = true) (k46 : PySem.W.keepIn K (.ref f46) = true)
    {f47 : Addr} {od47 an47 : Option Addr} {sl47 : Array (Option Value)} {oc47 kV47 dc47 pm47 cd47 ct47 : Value}
    (a47 : PySem.W.nsIn K mainGlobals "_law_is_plan" = some (some (.ref f47))) (l47 : K.lookup f47 = some ⟨oc47, od47, .func (PySem.W.fnOf "_law_is_plan" "_law_is_plan" (defArgs s_law_is_plan) (defBody s_law_is_plan) (defScope s_law_is_plan) .none kV47 dc47 pm47 an47 cd47 ct47), sl47⟩) (c47 : PySem.W.codeIn K cd47 "_law_is_plan" = true) (k47 : PySem.W.keepIn K (.ref f47) = true)
    {f48 : Addr} {od48 an48 : Option Addr} {sl48 : Array (Option Value)} {oc48 kV48 dc48 pm48 cd48 ct48 : Value}
    (a48 : PySem.W.nsIn K mainGlobals "_law_pair" = some (some (.ref f48))) (l48 : K.lookup f48 = some ⟨oc48, od48, .func (PySem.W.fnOf "_law_pair" "_law_pair" (defArgs s_law_pair) (defBody s_law_pair) (defScope s_law_pair) .none kV48 dc48 pm48 an48 cd48 ct48), sl48⟩) (c48 : PySem.W.codeIn K cd48 "_law_pair" = true) (k48 : PySem.W.keepIn K (.ref f48) = true)
    {f49 : Addr} {od49 an49 : Option Addr} {sl49 : Array (Option Value)} {oc49 kV49 dc49 pm49 cd49 ct49 : Value}
    (a49 : PySem.W.nsIn K mainGlobals "_law_anchored" = some (some (.ref f49))) (l49 : K.lookup f49 = some ⟨oc49, od49, .func (PySem.W.fnOf "_law_anchored" "_law_anchored" (defArgs s_law_anchored) (defBody s_law_anchored) (defScope s_law_anchored) .none kV49 dc49 pm49 an49 cd49 ct49), sl49⟩) (c49 : PySem.W.codeIn K cd49 "_law_anchored" = true) (k49 : PySem.W.keepIn K (.ref f49) = true)
    {f50 : Addr} {od50 an50 : Option Addr} {sl50 : Array (Option Value)} {oc50 kV50 dc50 pm50 cd50 ct50 : Value}
    (a50 : PySem.W.nsIn K mainGlobals "_law_rings_told" = some (some (.ref f50))) (l50 : K.lookup f50 = some ⟨oc50, od50, .func (PySem.W.fnOf "_law_rings_told" "_law_rings_told" (defArgs s_law_rings_told) (defBody s_law_rings_told) (defScope s_law_rings_told) .none kV50 dc50 pm50 an50 cd50 ct50), sl50⟩) (c50 : PySem.W.codeIn K cd50 "_law_rings_told" = true) (k50 : PySem.W.keepIn K (.ref f50) = true)
    {f51 : Addr} {od51 an51 : Option Addr} {sl51 : Array (Option Value)} {oc51 kV51 dc51 pm51 cd51 ct51 : Value}
    (a51 : PySem.W.nsIn K mainGlobals "_law_is_reason" = some (some (.ref f51))) (l51 : K.lookup f51 = some ⟨oc51, od51, .func (PySem.W.fnOf "_law_is_reason" "_law_is_reason" (defArgs s_law_is_reason) (defBody s_law_is_reason) (defScope s_law_is_reason) .none kV51 dc51 pm51 an51 cd51 ct51), sl51⟩) (c51 : PySem.W.codeIn K cd51 "_law_is_reason" = true) (k51 : PySem.W.keepIn K (.ref f51) = true)
    {f52 : Addr} {od52 an52 : Option Addr} {sl52 : Array (Option Value)} {oc52 kV52 dc52 pm52 cd52 ct52 : Value}
    (a52 : PySem.W.nsIn K mainGlobals "_law_raised" = some (some (.ref f52))) (l52 : K.lookup f52 = some ⟨oc52, od52, .func (PySem.W.fnOf "_law_raised" "_law_raised" (defArgs s_law_raised) (defBody s_law_raised) (defScope s_law_raised) .none kV52 dc52 pm52 an52 cd52 ct52), sl52⟩) (c52 : PySem.W.codeIn K cd52 "_law_raised" = true) (k52 : PySem.W.keepIn K (.ref f52) = true)
    {f53 : Addr} {od53 an53 : Option Addr} {sl53 : Array (Option Value)} {oc53 kV53 dc53 pm53 cd53 ct53 : Value}
    (a53 : PySem.W.nsIn K mainGlobals "_law_judged" = some (some (.ref f53))) (l53 : K.lookup f53 = some ⟨oc53, od53, .func (PySem.W.fnOf "_law_judged" "_law_judged" (defArgs s_law_judged) (defBody s_law_judged) (defScope s_law_judged) .none kV53 dc53 pm53 an53 cd53 ct53), sl53⟩) (c53 : PySem.W.codeIn K cd53 "_law_judged" = true) (k53 : PySem.W.keepIn K (.ref f53) = true)
    {f54 : Addr} {od54 an54 : Option Addr} {sl54 : Array (Option Value)} {oc54 kV54 dc54 pm54 cd54 ct54 : Value}
    (a54 : PySem.W.nsIn K mainGlobals "_law_length" = some (some (.ref f54))) (l54 : K.lookup f54 = some ⟨oc54, od54, .func (PySem.W.fnOf "_law_length" "_law_length" (defArgs s_law_length) (defBody s_law_length) (defScope s_law_length) .none kV54 dc54 pm54 an54 cd54 ct54), sl54⟩) (c54 : PySem.W.codeIn K cd54 "_law_length" = true) (k54 : PySem.W.keepIn K (.ref f54) = true)
    {f55 : Addr} {od55 an55 : Option Addr} {sl55 : Array (Option Value)} {oc55 kV55 dc55 pm55 cd55 ct55 : Value}
    (a55 : PySem.W.nsIn K mainGlobals "law" = some (some (.ref f55))) (l55 : K.lookup f55 = some ⟨oc55, od55, .func (PySem.W.fnOf "law" "law" (defArgs slaw) (defBody slaw) (defScope slaw) .none kV55 dc55 pm55 an55 cd55 ct55), sl55⟩) (c55 : PySem.W.codeIn K cd55 "law" = true) (k55 : PySem.W.keepIn K (.ref f55) = true)
    (z0 : PySem.W.nsIn K mainGlobals "abs" = some none)
    (z1 : PySem.W.nsIn K mainGlobals "all" = some none)
    (z2 : PySem.W.nsIn K mainGlobals "any" = some none)
    (z3 : PySem.W.nsIn K mainGlobals "bool" = some none)
    (z4 : PySem.W.nsIn K mainGlobals "enumerate" = some none)
    (z5 : PySem.W.nsIn K mainGlobals "int" = some none)
    (z6 : PySem.W.nsIn K mainGlobals "isinstance" = some none)
    (z7 : PySem.W.nsIn K mainGlobals "len" = some none)
    (z8 : PySem.W.nsIn K mainGlobals "list" = some none)
    (z9 : PySem.W.nsIn K mainGlobals "max" = some none)
    (z10 : PySem.W.nsIn K mainGlobals "min" = some none)
    (z11 : PySem.W.nsIn K mainGlobals "range" = some none)
    (z12 : PySem.W.nsIn K mainGlobals "set" = some none)
    (z13 : PySem.W.nsIn K mainGlobals "sorted" = some none)
    (z14 : PySem.W.nsIn K mainGlobals "str" = some none)
    (z15 : PySem.W.nsIn K mainGlobals "sum" = some none)
    (z16 : PySem.W.nsIn K mainGlobals "tuple" = some none)
    (z17 : PySem.W.nsIn K mainGlobals "zip" = some none)
    {t0 : Tok} (y0 : PySem.W.nsIn K mainGlobals "EMPTY" = some (some (.int (-1) t0)))
    {t1 : Tok} (y1 : PySem.W.nsIn K mainGlobals "_GREATEST" = some (some (.int (999) t1)))
    {t2 : Tok} (y2 : PySem.W.nsIn K mainGlobals "_MOST_BLOCKS" = some (some (.int (12) t2)))
    {C_InvalidImage : Addr}
    (eC_InvalidImage : PySem.W.nsIn K mainGlobals "InvalidImage" = some (some (.ref C_InvalidImage)))
    (eIc_InvalidImage : PySem.W.isClsIn K C_InvalidImage = true)
    (eTy_InvalidImage : PySem.W.typeIn K (.ref C_InvalidImage) = some (.type "type"))
    (eSb_InvalidImage : PySem.W.subIn K (.ref C_InvalidImage) (.type "BaseException") = some true)
    (eSs_InvalidImage : PySem.W.subIn K (.ref C_InvalidImage) (.ref C_InvalidImage) = some true)
    {C_NotAnchored : Addr}
    (eC_NotAnchored : PySem.W.nsIn K mainGlobals "NotAnchored" = some (some (.ref C_NotAnchored)))
    (eIc_NotAnchored : PySem.W.isClsIn K C_NotAnchored = true)
    (eTy_NotAnchored : PySem.W.typeIn K (.ref C_NotAnchored) = some (.type "type"))
    (eSb_NotAnchored : PySem.W.subIn K (.ref C_NotAnchored) (.type "BaseException") = some true)
    (eSs_NotAnchored : PySem.W.subIn K (.ref C_NotAnchored) (.ref C_NotAnchored) = some true)
    {C_NoPlan : Addr}
    (eC_NoPlan : PySem.W.nsIn K mainGlobals "NoPlan" = some (some (.ref C_NoPlan)))
    (eIc_NoPlan : PySem.W.isClsIn K C_NoPlan = true)
    (eTy_NoPlan : PySem.W.typeIn K (.ref C_NoPlan) = some (.type "type"))
    (eSb_NoPlan : PySem.W.subIn K (.ref C_NoPlan) (.type "BaseException") = some true)
    (eSs_NoPlan : PySem.W.subIn K (.ref C_NoPlan) (.ref C_NoPlan) = some true)
    {C_Undecided : Addr}
    (eC_Undecided : PySem.W.nsIn K mainGlobals "Undecided" = some (some (.ref C_Undecided)))
    (eIc_Undecided : PySem.W.isClsIn K C_Undecided = true)
    (eTy_Undecided : PySem.W.typeIn K (.ref C_Undecided) = some (.type "type"))
    (eSb_Undecided : PySem.W.subIn K (.ref C_Undecided) (.type "BaseException") = some true)
    (eSs_Undecided : PySem.W.subIn K (.ref C_Undecided) (.ref C_Undecided) = some true)
    {C_NotRenaming : Addr}
    (eC_NotRenaming : PySem.W.nsIn K mainGlobals "NotRenaming" = some (some (.ref C_NotRenaming)))
    (eIc_NotRenaming : PySem.W.isClsIn K C_NotRenaming = true)
    (eTy_NotRenaming : PySem.W.typeIn K (.ref C_NotRenaming) = some (.type "type"))
    (eSb_NotRenaming : PySem.W.subIn K (.ref C_NotRenaming) (.type "BaseException") = some true)
    (eSs_NotRenaming : PySem.W.subIn K (.ref C_NotRenaming) (.ref C_NotRenaming) = some true)
    {C_RedoError : Addr}
    (eC_RedoError : PySem.W.nsIn K mainGlobals "RedoError" = some (some (.ref C_RedoError)))
    (eIc_RedoError : PySem.W.isClsIn K C_RedoError = true)
    (eTy_RedoError : PySem.W.typeIn K (.ref C_RedoError) = some (.type "type"))
    (eSb_RedoError : PySem.W.subIn K (.ref C_RedoError) (.type "BaseException") = some true)
    (eSs_RedoError : PySem.W.subIn K (.ref C_RedoError) (.ref C_RedoError) = some true)
    {fI_InvalidImage : Addr} {nm_InvalidImage q_InvalidImage : Str} {NE_InvalidImage : Addr} {bs_InvalidImage : List Value} {sn_InvalidImage : List Str} {sub_InvalidImage : List Value} {ab_InvalidImage : Bool} {col_InvalidImage : Option Bool} {dd_InvalidImage : Option Addr} {m0_InvalidImage m1_InvalidImage m2_InvalidImage m3_InvalidImage m5_InvalidImage : Option Value} {od_InvalidImage an_InvalidImage : Option Addr} {sl_InvalidImage : Array (Option Value)} {oc_InvalidImage kV_InvalidImage dc_InvalidImage pm_InvalidImage cd_InvalidImage ct_InvalidImage : Value}
    (eX_InvalidImage : K.lookup C_InvalidImage = some (excClassObj nm_InvalidImage q_InvalidImage C_InvalidImage NE_InvalidImage bs_InvalidImage [.ref C_RedoError, .type "ValueError", .type "Exception", .type "BaseException", .type "object"] true sn_InvalidImage sub_InvalidImage ab_InvalidImage col_InvalidImage dd_InvalidImage m0_InvalidImage m1_InvalidImage m2_InvalidImage m3_InvalidImage m5_InvalidImage "ValueError.__new__"))
    (eSa_InvalidImage : PySem.W.findIn K (.ref C_InvalidImage) "__setattr__" = some (some (.builtin "object.__setattr__")))
    (eGa_InvalidImage : PySem.W.findIn K (.ref C_InvalidImage) "__getattribute__" = some (some (.builtin "BaseException.__getattribute__")))
    (eGg_InvalidImage : PySem.W.findIn K (.ref C_InvalidImage) "__getattr__" = some none)
    (eNb_InvalidImage : PySem.W.findIn K (.ref C_InvalidImage) "block" = some none)
    (eIn_InvalidImage : PySem.W.findIn K (.ref C_InvalidImage) "__init__" = some (some (.ref fI_InvalidImage)))
    (eTf_InvalidImage : PySem.W.typeIn K (.ref fI_InvalidImage) = some (.type "function"))
    (eLk_InvalidImage : K.lookup fI_InvalidImage = some ⟨oc_InvalidImage, od_InvalidImage, .func (PySem.W.fnOf "__init__" "InvalidImage.__init__" (defArgs sInvalidImageu_initu) (defBody sInvalidImageu_initu) (defScope sInvalidImageu_initu) .none kV_InvalidImage dc_InvalidImage pm_InvalidImage an_InvalidImage cd_InvalidImage ct_InvalidImage), sl_InvalidImage⟩)
    (eCd_InvalidImage : PySem.W.codeIn K cd_InvalidImage "InvalidImage.__init__" = true)
    (eKf_InvalidImage : PySem.W.keepIn K (.ref fI_InvalidImage) = true)
    (eKp_InvalidImage : PySem.W.keepIn K (.ref C_InvalidImage) = true)
    (eHd_InvalidImage : PySem.W.hasDictIn K C_InvalidImage = true)
    (eCc_InvalidImage : PySem.W.findIn K (.ref C_InvalidImage) "__class__" = some (some (.builtin "object.__class__")))
    (eSp_InvalidImage : PySem.W.specialIn K (.builtin "object.__class__") "__get__" = some (some (.builtin "getset_descriptor.__get__")))
    (eTk_InvalidImage : PySem.W.takesIn K (.builtin "object.__class__") = some true)
    (eMo_InvalidImage : PySem.W.mroIn K C_InvalidImage (.type "object") = some true)
    {fI_NotAnchored : Addr} {nm_NotAnchored q_NotAnchored : Str} {NE_NotAnchored : Addr} {bs_NotAnchored : List Value} {sn_NotAnchored : List Str} {sub_NotAnchored : List Value} {ab_NotAnchored : Bool} {col_NotAnchored : Option Bool} {dd_NotAnchored : Option Addr} {m0_NotAnchored m1_NotAnchored m2_NotAnchored m3_NotAnchored m5_NotAnchored : Option Value} {od_NotAnchored an_NotAnchored : Option Addr} {sl_NotAnchored : Array (Option Value)} {oc_NotAnchored kV_NotAnchored dc_NotAnchored pm_NotAnchored cd_NotAnchored ct_NotAnchored : Value}
    (eX_NotAnchored : K.lookup C_NotAnchored = some (excClassObj nm_NotAnchored q_NotAnchored C_NotAnchored NE_NotAnchored bs_NotAnchored [.ref C_RedoError, .type "ValueError", .type "Exception", .type "BaseException", .type "object"] true sn_NotAnchored sub_NotAnchored ab_NotAnchored col_NotAnchored dd_NotAnchored m0_NotAnchored m1_NotAnchored m2_NotAnchored m3_NotAnchored m5_NotAnchored "ValueError.__new__"))
    (eSa_NotAnchored : PySem.W.findIn K (.ref C_NotAnchored) "__setattr__" = some (some (.builtin "object.__setattr__")))
    (eGa_NotAnchored : PySem.W.findIn K (.ref C_NotAnchored) "__getattribute__" = some (some (.builtin "BaseException.__getattribute__")))
    (eGg_NotAnchored : PySem.W.findIn K (.ref C_NotAnchored) "__getattr__" = some none)
    (eNb_NotAnchored : PySem.W.findIn K (.ref C_NotAnchored) "value" = some none)
    (eIn_NotAnchored : PySem.W.findIn K (.ref C_NotAnchored) "__init__" = some (some (.ref fI_NotAnchored)))
    (eTf_NotAnchored : PySem.W.typeIn K (.ref fI_NotAnchored) = some (.type "function"))
    (eLk_NotAnchored : K.lookup fI_NotAnchored = some ⟨oc_NotAnchored, od_NotAnchored, .func (PySem.W.fnOf "__init__" "NotAnchored.__init__" (defArgs sNotAnchoredu_initu) (defBody sNotAnchoredu_initu) (defScope sNotAnchoredu_initu) .none kV_NotAnchored dc_NotAnchored pm_NotAnchored an_NotAnchored cd_NotAnchored ct_NotAnchored), sl_NotAnchored⟩)
    (eCd_NotAnchored : PySem.W.codeIn K cd_NotAnchored "NotAnchored.__init__" = true)
    (eKf_NotAnchored : PySem.W.keepIn K (.ref fI_NotAnchored) = true)
    (eKp_NotAnchored : PySem.W.keepIn K (.ref C_NotAnchored) = true)
    (eHd_NotAnchored : PySem.W.hasDictIn K C_NotAnchored = true)
    (eCc_NotAnchored : PySem.W.findIn K (.ref C_NotAnchored) "__class__" = some (some (.builtin "object.__class__")))
    (eSp_NotAnchored : PySem.W.specialIn K (.builtin "object.__class__") "__get__" = some (some (.builtin "getset_descriptor.__get__")))
    (eTk_NotAnchored : PySem.W.takesIn K (.builtin "object.__class__") = some true)
    (eMo_NotAnchored : PySem.W.mroIn K C_NotAnchored (.type "object") = some true)
    {fI_NoPlan : Addr} {nm_NoPlan q_NoPlan : Str} {NE_NoPlan : Addr} {bs_NoPlan : List Value} {sn_NoPlan : List Str} {sub_NoPlan : List Value} {ab_NoPlan : Bool} {col_NoPlan : Option Bool} {dd_NoPlan : Option Addr} {m0_NoPlan m1_NoPlan m2_NoPlan m3_NoPlan m5_NoPlan : Option Value} {od_NoPlan an_NoPlan : Option Addr} {sl_NoPlan : Array (Option Value)} {oc_NoPlan kV_NoPlan dc_NoPlan pm_NoPlan cd_NoPlan ct_NoPlan : Value}
    (eX_NoPlan : K.lookup C_NoPlan = some (excClassObj nm_NoPlan q_NoPlan C_NoPlan NE_NoPlan bs_NoPlan [.ref C_RedoError, .type "ValueError", .type "Exception", .type "BaseException", .type "object"] true sn_NoPlan sub_NoPlan ab_NoPlan col_NoPlan dd_NoPlan m0_NoPlan m1_NoPlan m2_NoPlan m3_NoPlan m5_NoPlan "ValueError.__new__"))
    (eSa_NoPlan : PySem.W.findIn K (.ref C_NoPlan) "__setattr__" = some (some (.builtin "object.__setattr__")))
    (eGa_NoPlan : PySem.W.findIn K (.ref C_NoPlan) "__getattribute__" = some (some (.builtin "BaseException.__getattribute__")))
    (eGg_NoPlan : PySem.W.findIn K (.ref C_NoPlan) "__getattr__" = some none)
    (eNb_NoPlan : PySem.W.findIn K (.ref C_NoPlan) "reason" = some none)
    (eIn_NoPlan : PySem.W.findIn K (.ref C_NoPlan) "__init__" = some (some (.ref fI_NoPlan)))
    (eTf_NoPlan : PySem.W.typeIn K (.ref fI_NoPlan) = some (.type "function"))
    (eLk_NoPlan : K.lookup fI_NoPlan = some ⟨oc_NoPlan, od_NoPlan, .func (PySem.W.fnOf "__init__" "NoPlan.__init__" (defArgs sNoPlanu_initu) (defBody sNoPlanu_initu) (defScope sNoPlanu_initu) .none kV_NoPlan dc_NoPlan pm_NoPlan an_NoPlan cd_NoPlan ct_NoPlan), sl_NoPlan⟩)
    (eCd_NoPlan : PySem.W.codeIn K cd_NoPlan "NoPlan.__init__" = true)
    (eKf_NoPlan : PySem.W.keepIn K (.ref fI_NoPlan) = true)
    (eKp_NoPlan : PySem.W.keepIn K (.ref C_NoPlan) = true)
    (eHd_NoPlan : PySem.W.hasDictIn K C_NoPlan = true)
    (eCc_NoPlan : PySem.W.findIn K (.ref C_NoPlan) "__class__" = some (some (.builtin "object.__class__")))
    (eSp_NoPlan : PySem.W.specialIn K (.builtin "object.__class__") "__get__" = some (some (.builtin "getset_descriptor.__get__")))
    (eTk_NoPlan : PySem.W.takesIn K (.builtin "object.__class__") = some true)
    (eMo_NoPlan : PySem.W.mroIn K C_NoPlan (.type "object") = some true)
    {fI_Undecided : Addr} {nm_Undecided q_Undecided : Str} {NE_Undecided : Addr} {bs_Undecided : List Value} {sn_Undecided : List Str} {sub_Undecided : List Value} {ab_Undecided : Bool} {col_Undecided : Option Bool} {dd_Undecided : Option Addr} {m0_Undecided m1_Undecided m2_Undecided m3_Undecided m5_Undecided : Option Value} {od_Undecided an_Undecided : Option Addr} {sl_Undecided : Array (Option Value)} {oc_Undecided kV_Undecided dc_Undecided pm_Undecided cd_Undecided ct_Undecided : Value}
    (eX_Undecided : K.lookup C_Undecided = some (excClassObj nm_Undecided q_Undecided C_Undecided NE_Undecided bs_Undecided [.ref C_RedoError, .type "ValueError", .type "Exception", .type "BaseException", .type "object"] true sn_Undecided sub_Undecided ab_Undecided col_Undecided dd_Undecided m0_Undecided m1_Undecided m2_Undecided m3_Undecided m5_Undecided "ValueError.__new__"))
    (eSa_Undecided : PySem.W.findIn K (.ref C_Undecided) "__setattr__" = some (some (.builtin "object.__setattr__")))
    (eGa_Undecided : PySem.W.findIn K (.ref C_Undecided) "__getattribute__" = some (some (.builtin "BaseException.__getattribute__")))
    (eGg_Undecided : PySem.W.findIn K (.ref C_Undecided) "__getattr__" = some none)
    (eNb_Undecided : PySem.W.findIn K (.ref C_Undecided) "rings" = some none)
    (eIn_Undecided : PySem.W.findIn K (.ref C_Undecided) "__init__" = some (some (.ref fI_Undecided)))
    (eTf_Undecided : PySem.W.typeIn K (.ref fI_Undecided) = some (.type "function"))
    (eLk_Undecided : K.lookup fI_Undecided = some ⟨oc_Undecided, od_Undecided, .func (PySem.W.fnOf "__init__" "Undecided.__init__" (defArgs sUndecidedu_initu) (defBody sUndecidedu_initu) (defScope sUndecidedu_initu) .none kV_Undecided dc_Undecided pm_Undecided an_Undecided cd_Undecided ct_Undecided), sl_Undecided⟩)
    (eCd_Undecided : PySem.W.codeIn K cd_Undecided "Undecided.__init__" = true)
    (eKf_Undecided : PySem.W.keepIn K (.ref fI_Undecided) = true)
    (eKp_Undecided : PySem.W.keepIn K (.ref C_Undecided) = true)
    (eHd_Undecided : PySem.W.hasDictIn K C_Undecided = true)
    (eCc_Undecided : PySem.W.findIn K (.ref C_Undecided) "__class__" = some (some (.builtin "object.__class__")))
    (eSp_Undecided : PySem.W.specialIn K (.builtin "object.__class__") "__get__" = some (some (.builtin "getset_descriptor.__get__")))
    (eTk_Undecided : PySem.W.takesIn K (.builtin "object.__class__") = some true)
    (eMo_Undecided : PySem.W.mroIn K C_Undecided (.type "object") = some true)
    (eQx_NotRenaming : PySem.W.excIn K C_NotRenaming vBase "ValueError.__new__" = true)
    (eKp_NotRenaming : PySem.W.keepIn K (.ref C_NotRenaming) = true)
    (eGa_NotRenaming : PySem.W.findIn K (.ref C_NotRenaming) "__getattribute__" = some (some (.builtin "BaseException.__getattribute__")))
    (eGg_NotRenaming : PySem.W.findIn K (.ref C_NotRenaming) "__getattr__" = some none)
    (eHd_NotRenaming : PySem.W.hasDictIn K C_NotRenaming = true)
    (eCc_NotRenaming : PySem.W.findIn K (.ref C_NotRenaming) "__class__" = some (some (.builtin "object.__class__")))
    (eSp_NotRenaming : PySem.W.specialIn K (.builtin "object.__class__") "__get__" = some (some (.builtin "getset_descriptor.__get__")))
    (eTk_NotRenaming : PySem.W.takesIn K (.builtin "object.__class__") = some true)
    (eMo_NotRenaming : PySem.W.mroIn K C_NotRenaming (.type "object") = some true)
    (eS_Undecided_NoPlan : PySem.W.subIn K (.ref C_Undecided) (.ref C_NoPlan) = some false)
    : ∃ fd : FuncData, (∀ (s : Shared) (v : Value), BindsTo s fd ⟨[v], []⟩ [("script", v)]) ∧ ∀ base : Heap, K.In base → base.Ns mainGlobals mg → FnOk l.prog w K mg base CX0 13 fa fd ["script"] (splaw K) := by
  have e := hfa.symm.trans (PySem.W.mg_of X G a55)
  cases e
  have T : Top K mg := ⟨def_mk X G a0 l0 c0 k0 (fun _ _ _ _ _ _ us hl => match us, hl with | [_], _ => rfl),
    def_mk X G a1 l1 c1 k1 (fun _ _ _ _ _ _ us hl => match us, hl with | [_], _ => rfl),
    def_mk X G a2 l2 c2 k2 (fun _ _ _ _ _ _ us hl => match us, hl with | [_], _ => rfl),
    def_mk X G a3 l3 c3 k3 (fun _ _ _ _ _ _ us hl => match us, hl with | [_, _], _ => rfl),
    def_mk X G a4 l4 c4 k4 (fun _ _ _ _ _ _ us hl => match us, hl with | [_, _], _ => rfl),
    def_mk X G a5 l5 c5 k5 (fun _ _ _ _ _ _ us hl => match us, hl with | [_, _], _ => rfl),
    def_mk X G a6 l6 c6 k6 (fun _ _ _ _ _ _ us hl => match us, hl with | [_], _ => rfl),
    def_mk X G a7 l7 c7 k7 (fun _ _ _ _ _ _ us hl => match us, hl with | [_, _], _ => rfl),
    def_mk X G a8 l8 c8 k8 (fun _ _ _ _ _ _ us hl => match us, hl with | [_, _], _ => rfl),
    def_mk X G a9 l9 c9 k9 (fun _ _ _ _ _ _ us hl => match us, hl with | [_, _], _ => rfl),
    def_mk X G a10 l10 c10 k10 (fun _ _ _ _ _ _ us hl => match us, hl with | [_], _ => rfl),
    def_mk X G a11 l11 c11 k11 (fun _ _ _ _ _ _ us hl => match us, hl with | [_, _], _ => rfl),
    def_mk X G a12 l12 c12 k12 (fun _ _ _ _ _ _ us hl => match us, hl with | [_, _], _ => rfl),
    def_mk X G a13 l13 c13 k13 (fun _ _ _ _ _ _ us hl => match us, hl with | [_, _], _ => rfl),
    def_mk X G a14 l14 c14 k14 (fun _ _ _ _ _ _ us hl => match us, hl with | [_, _], _ => rfl),
    def_mk X G a15 l15 c15 k15 (fun _ _ _ _ _ _ us hl => match us, hl with | [_, _], _ => rfl),
    def_mk X G a16 l16 c16 k16 (fun _ _ _ _ _ _ us hl => match us, hl with | [_, _], _ => rfl),
    def_mk X G a17 l17 c17 k17 (fun _ _ _ _ _ _ us hl => match us, hl with | [_, _, _], _ => rfl),
    def_mk X G a18 l18 c18 k18 (fun _ _ _ _ _ _ us hl => match us, hl with | [_, _], _ => rfl),
    def_mk X G a19 l19 c19 k19 (fun _ _ _ _ _ _ us hl => match us, hl with | [_, _], _ => rfl),
    def_mk X G a20 l20 c20 k20 (fun _ _ _ _ _ _ us hl => match us, hl with | [_, _], _ => rfl),
    def_mk X G a21 l21 c21 k21 (fun _ _ _ _ _ _ us hl => match us, hl with | [_, _], _ => rfl),
    def_mk X G a22 l22 c22 k22 (fun _ _ _ _ _ _ us hl => match us, hl with | [_], _ => rfl),
    def_mk X G a23 l23 c23 k23 (fun _ _ _ _ _ _ us hl => match us, hl with | [_, _, _], _ => rfl),
    def_mk X G a24 l24 c24 k24 (fun _ _ _ _ _ _ us hl => match us, hl with | [_, _], _ => rfl),
    def_mk X G a25 l25 c25 k25 (fun _ _ _ _ _ _ us hl => match us, hl with | [_, _], _ => rfl),
    def_mk X G a26 l26 c26 k26 (fun _ _ _ _ _ _ us hl => match us, hl with | [_, _, _], _ => rfl),
    def_mk X G a27 l27 c27 k27 (fun _ _ _ _ _ _ us hl => match us, hl with | [_], _ => rfl),
    def_mk X G a28 l28 c28 k28 (fun _ _ _ _ _ _ us hl => match us, hl with | [_, _], _ => rfl),
    def_mk X G a29 l29 c29 k29 (fun _ _ _ _ _ _ us hl => match us, hl with | [_, _], _ => rfl),
    def_mk X G a30 l30 c30 k30 (fun _ _ _ _ _ _ us hl => match us, hl with | [_, _], _ => rfl),
    def_mk X G a31 l31 c31 k31 (fun _ _ _ _ _ _ us hl => match us, hl with | [_, _], _ => rfl),
    def_mk X G a32 l32 c32 k32 (fun _ _ _ _ _ _ us hl => match us, hl with | [_, _], _ => rfl),
    def_mk X G a33 l33 c33 k33 (fun _ _ _ _ _ _ us hl => match us, hl with | [_, _], _ => rfl),
    def_mk X G a34 l34 c34 k34 (fun _ _ _ _ _ _ us hl => match us, hl with | [_], _ => rfl),
    def_mk X G a35 l35 c35 k35 (fun _ _ _ _ _ _ us hl => match us, hl with | [_, _], _ => rfl),
    def_mk X G a36 l36 c36 k36 (fun _ _ _ _ _ _ us hl => match us, hl with | [_], _ => rfl),
    def_mk X G a37 l37 c37 k37 (fun _ _ _ _ _ _ us hl => match us, hl with | [_], _ => rfl),
    def_mk X G a38 l38 c38 k38 (fun _ _ _ _ _ _ us hl => match us, hl with | [_, _], _ => rfl),
    def_mk X G a39 l39 c39 k39 (fun _ _ _ _ _ _ us hl => match us, hl with | [_, _], _ => rfl),
    def_mk X G a40 l40 c40 k40 (fun _ _ _ _ _ _ us hl => match us, hl with | [_], _ => rfl),
    def_mk X G a41 l41 c41 k41 (fun _ _ _ _ _ _ us hl => match us, hl with | [_, _], _ => rfl),
    def_mk X G a42 l42 c42 k42 (fun _ _ _ _ _ _ us hl => match us, hl with | [_, _, _], _ => rfl),
    def_mk X G a43 l43 c43 k43 (fun _ _ _ _ _ _ us hl => match us, hl with | [_, _], _ => rfl),
    def_mk X G a44 l44 c44 k44 (fun _ _ _ _ _ _ us hl => match us, hl with | [_, _], _ => rfl),
    def_mk X G a45 l45 c45 k45 (fun _ _ _ _ _ _ us hl => match us, hl with | [_, _], _ => rfl),
    def_mk X G a46 l46 c46 k46 (fun _ _ _ _ _ _ us hl => match us, hl with | [_, _, _], _ => rfl),
    def_mk X G a47 l47 c47 k47 (fun _ _ _ _ _ _ us hl => match us, hl with | [_, _, _], _ => rfl),
    def_mk X G a48 l48 c48 k48 (fun _ _ _ _ _ _ us hl => match us, hl with | [_], _ => rfl),
    def_mk X G a49 l49 c49 k49 (fun _ _ _ _ _ _ us hl => match us, hl with | [_, _, _], _ => rfl),
    def_mk X G a50 l50 c50 k50 (fun _ _ _ _ _ _ us hl => match us, hl with | [_, _, _, _], _ => rfl),
    def_mk X G a51 l51 c51 k51 (fun _ _ _ _ _ _ us hl => match us, hl with | [_, _], _ => rfl),
    def_mk X G a52 l52 c52 k52 (fun _ _ _ _ _ _ us hl => match us, hl with | [_, _, _, _], _ => rfl),
    def_mk X G a53 l53 c53 k53 (fun _ _ _ _ _ _ us hl => match us, hl with | [_, _, _], _ => rfl),
    def_mk X G a54 l54 c54 k54 (fun _ _ _ _ _ _ us hl => match us, hl with | [_, _], _ => rfl),
    def_mk X G a55 l55 c55 k55 (fun _ _ _ _ _ _ us hl => match us, hl with | [_], _ => rfl),
    PySem.W.mg_none_of X G z0,
    PySem.W.mg_none_of X G z1,
    PySem.W.mg_none_of X G z2,
    PySem.W.mg_none_of X G z3,
    PySem.W.mg_none_of X G z4,
    PySem.W.mg_none_of X G z5,
    PySem.W.mg_none_of X G z6,
    PySem.W.mg_none_of X G z7,
    PySem.W.mg_none_of X G z8,
    PySem.W.mg_none_of X G z9,
    PySem.W.mg_none_of X G z10,
    PySem.W.mg_none_of X G z11,
    PySem.W.mg_none_of X G z12,
    PySem.W.mg_none_of X G z13,
    PySem.W.mg_none_of X G z14,
    PySem.W.mg_none_of X G z15,
    PySem.W.mg_none_of X G z16,
    PySem.W.mg_none_of X G z17,
    const_mk X G y0 ⟨_, rfl⟩,
    const_mk X G y1 ⟨_, rfl⟩,
    const_mk X G y2 ⟨_, rfl⟩,
    (by
      rw [atTop_of eC_InvalidImage]
      have F := fun_mk (st := sInvalidImageu_initu) eLk_InvalidImage eCd_InvalidImage eKf_InvalidImage
      exact ⟨fI_InvalidImage, _, ⟨PySem.W.mg_of X G eC_InvalidImage, ⟨⟨_, _, _, _, _, _, _, _, _, _, _, _, _, _, _, eX_InvalidImage, by rfl⟩, eSa_InvalidImage, eSb_InvalidImage, eTy_InvalidImage, eKp_InvalidImage⟩, ⟨eGa_InvalidImage, eGg_InvalidImage, eSb_InvalidImage, eHd_InvalidImage⟩, ⟨eGa_InvalidImage, eGg_InvalidImage, eSb_InvalidImage, eHd_InvalidImage, eCc_InvalidImage, eSp_InvalidImage, eTk_InvalidImage, eMo_InvalidImage⟩, eIc_InvalidImage, eNb_InvalidImage, eIn_InvalidImage, eTf_InvalidImage⟩, F, F.binds (ps := ["self", "block"]) fun _ _ _ _ _ _ us hl => match us, hl with | [_, _], _ => rfl⟩),
    (by
      rw [atTop_of eC_NotAnchored]
      have F := fun_mk (st := sNotAnchoredu_initu) eLk_NotAnchored eCd_NotAnchored eKf_NotAnchored
      exact ⟨fI_NotAnchored, _, ⟨PySem.W.mg_of X G eC_NotAnchored, ⟨⟨_, _, _, _, _, _, _, _, _, _, _, _, _, _, _, eX_NotAnchored, by rfl⟩, eSa_NotAnchored, eSb_NotAnchored, eTy_NotAnchored, eKp_NotAnchored⟩, ⟨eGa_NotAnchored, eGg_NotAnchored, eSb_NotAnchored, eHd_NotAnchored⟩, ⟨eGa_NotAnchored, eGg_NotAnchored, eSb_NotAnchored, eHd_NotAnchored, eCc_NotAnchored, eSp_NotAnchored, eTk_NotAnchored, eMo_NotAnchored⟩, eIc_NotAnchored, eNb_NotAnchored, eIn_NotAnchored, eTf_NotAnchored⟩, F, F.binds (ps := ["self", "value"]) fun _ _ _ _ _ _ us hl => match us, hl with | [_, _], _ => rfl⟩),
    (by
      rw [atTop_of eC_NoPlan]
      have F := fun_mk (st := sNoPlanu_initu) eLk_NoPlan eCd_NoPlan eKf_NoPlan
      exact ⟨fI_NoPlan, _, ⟨PySem.W.mg_of X G eC_NoPlan, ⟨⟨_, _, _, _, _, _, _, _, _, _, _, _, _, _, _, eX_NoPlan, by rfl⟩, eSa_NoPlan, eSb_NoPlan, eTy_NoPlan, eKp_NoPlan⟩, ⟨eGa_NoPlan, eGg_NoPlan, eSb_NoPlan, eHd_NoPlan⟩, ⟨eGa_NoPlan, eGg_NoPlan, eSb_NoPlan, eHd_NoPlan, eCc_NoPlan, eSp_NoPlan, eTk_NoPlan, eMo_NoPlan⟩, eIc_NoPlan, eNb_NoPlan, eIn_NoPlan, eTf_NoPlan⟩, F, F.binds (ps := ["self", "reason"]) fun _ _ _ _ _ _ us hl => match us, hl with | [_, _], _ => rfl⟩),
    (by
      rw [atTop_of eC_Undecided]
      have F := fun_mk (st := sUndecidedu_initu) eLk_Undecided eCd_Undecided eKf_Undecided
      exact ⟨fI_Undecided, _, ⟨PySem.W.mg_of X G eC_Undecided, ⟨⟨_, _, _, _, _, _, _, _, _, _, _, _, _, _, _, eX_Undecided, by rfl⟩, eSa_Undecided, eSb_Undecided, eTy_Undecided, eKp_Undecided⟩, ⟨eGa_Undecided, eGg_Undecided, eSb_Undecided, eHd_Undecided⟩, ⟨eGa_Undecided, eGg_Undecided, eSb_Undecided, eHd_Undecided, eCc_Undecided, eSp_Undecided, eTk_Undecided, eMo_Undecided⟩, eIc_Undecided, eNb_Undecided, eIn_Undecided, eTf_Undecided⟩, F, F.binds (ps := ["self", "rings"]) fun _ _ _ _ _ _ us hl => match us, hl with | [_, _], _ => rfl⟩),
    ⟨_, PySem.W.mg_of X G eC_InvalidImage, (by rw [atTop_of eC_InvalidImage]; rfl)⟩,
    ⟨_, PySem.W.mg_of X G eC_NotAnchored, (by rw [atTop_of eC_NotAnchored]; rfl)⟩,
    ⟨_, PySem.W.mg_of X G eC_NoPlan, (by rw [atTop_of eC_NoPlan]; rfl)⟩,
    ⟨_, PySem.W.mg_of X G eC_NotRenaming, (by rw [atTop_of eC_NotRenaming]; rfl)⟩,
    ⟨_, PySem.W.mg_of X G eC_RedoError, (by rw [atTop_of eC_RedoError]; rfl)⟩,
    ⟨_, PySem.W.mg_of X G eC_Undecided, (by rw [atTop_of eC_Undecided]; rfl)⟩,
    (by rw [atTop_of eC_NotRenaming]; exact ⟨PySem.W.mg_of X G eC_NotRenaming, eQx_NotRenaming, eKp_NotRenaming, eSb_NotRenaming, eTy_NotRenaming, ⟨eGa_NotRenaming, eGg_NotRenaming, eSb_NotRenaming, eHd_NotRenaming, eCc_NotRenaming, eSp_NotRenaming, eTk_NotRenaming, eMo_NotRenaming⟩, eIc_NotRenaming⟩),
    (by rw [atTop_of eC_NotAnchored]; exact exm_of eSb_NotAnchored eIc_NotAnchored eTy_NotAnchored eSs_NotAnchored),
    (by rw [atTop_of eC_NoPlan]; exact exm_of eSb_NoPlan eIc_NoPlan eTy_NoPlan eSs_NoPlan),
    (by rw [atTop_of eC_Undecided, atTop_of eC_NoPlan]; exact exm_of eSb_NoPlan eIc_NoPlan eTy_NoPlan eS_Undecided_NoPlan),
    (by rw [atTop_of eC_Undecided]; exact exm_of eSb_Undecided eIc_Undecided eTy_Undecided eSs_Undecided)⟩
  have F := fun_mk (st := slaw) l55 c55 k55
  exact ⟨_, fun s v => .of_eq rfl, fun base _ _ => oklaw T ⟨F, F.binds (ps := ["script"]) fun _ _ _ _ _ _ us hl => match us, hl with | [_], _ => rfl, PySem.W.mg_of X G a55⟩⟩
end K76
open PySem PySem.W PyProof.Rows in
set_option maxRecDepth 100000 in
set_option maxHeartbeats 0 in
theorem PySem.Challenge.cw_redolots_k76_whole_renames_and_replacing_holds : PySem.Challenge.rw_redolots_k76_whole_renames_and_replacing.Holds := by
  w_on; o_law; k_head; (case hw => w_witness2)
  k_fill
  refine L2.walk_ofK (l := PySem.Challenge.rw_redolots_k76_whole_renames_and_replacing) (n := 63) (k := 13) (x := "script") (CX := L2.CX0) (sp := K76.splaw) rfl (by decide) rfl ⟨rfl, by decide, by decide⟩ (fun w h Y => PySem.W.kIn_of Y) ?F (fun K H a ns hl _ hS => ⟨a, ns, rfl, hS, hl, fun _ => rfl⟩) (fun _ _ _ _ z => z)
  case F =>
    intro w mg fa h KX G hmg
    refine' K76.all_mk KX G hmg ?a0 ?l0 ?c0 ?k0 ?a1 ?l1 ?c1 ?k1 ?a2 ?l2 ?c2 ?k2 ?a3 ?l3 ?c3 ?k3 ?a4 ?l4 ?c4 ?k4 ?a5 ?l5 ?c5 ?k5 ?a6 ?l6 ?c6 ?k6 ?a7 ?l7 ?c7 ?k7 ?a8 ?l8 ?c8 ?k8 ?a9 ?l9 ?c9 ?k9 ?a10 ?l10 ?c10 ?k10 ?a11 ?l11 ?c11 ?k11 ?a12 ?l12 ?c12 ?k12 ?a13 ?l13 ?c13 ?k13 ?a14 ?l14 ?c14 ?k14 ?a15 ?l15 ?c15 ?k15 ?a16 ?l16 ?c16 ?k16 ?a17 ?l17 ?c17 ?k17 ?a18 ?l18 ?c18 ?k18 ?a19 ?l19 ?c19 ?k19 ?a20 ?l20 ?c20 ?k20 ?a21 ?l21 ?c21 ?k21 ?a22 ?l22 ?c22 ?k22 ?a23 ?l23 ?c23 ?k23 ?a24 ?l24 ?c24 ?k24 ?a25 ?l25 ?c25 ?k25 ?a26 ?l26 ?c26 ?k26 ?a27 ?l27 ?c27 ?k27 ?a28 ?l28 ?c28 ?k28 ?a29 ?l29 ?c29 ?k29 ?a30 ?l30 ?c30 ?k30 ?a31 ?l31 ?c31 ?k31 ?a32 ?l32 ?c32 ?k32 ?a33 ?l33 ?c33 ?k33 ?a34 ?l34 ?c34 ?k34 ?a35 ?l35 ?c35 ?k35 ?a36 ?l36 ?c36 ?k36 ?a37 ?l37 ?c37 ?k37 ?a38 ?l38 ?c38 ?k38 ?a39 ?l39 ?c39 ?k39 ?a40 ?l40 ?c40 ?k40 ?a41 ?l41 ?c41 ?k41 ?a42 ?l42 ?c42 ?k42 ?a43 ?l43 ?c43 ?k43 ?a44 ?l44 ?c44 ?k44 ?a45 ?l45 ?c45 ?k45 ?a46 ?l46 ?c46 ?k46 ?a47 ?l47 ?c47 ?k47 ?a48 ?l48 ?c48 ?k48 ?a49 ?l49 ?c49 ?k49 ?a50 ?l50 ?c50 ?k50 ?a51 ?l51 ?c51 ?k51 ?a52 ?l52 ?c52 ?k52 ?a53 ?l53 ?c53 ?k53 ?a54 ?l54 ?c54 ?k54 ?a55 ?l55 ?c55 ?k55 ?z0 ?z1 ?z2 ?z3 ?z4 ?z5 ?z6 ?z7 ?z8 ?z9 ?z10 ?z11 ?z12 ?z13 ?z14 ?z15 ?z16 ?z17 ?y0 ?y1 ?y2 ?eC_InvalidImage ?eIc_InvalidImage ?eTy_InvalidImage ?eSb_InvalidImage ?eSs_InvalidImage ?eC_NotAnchored ?eIc_NotAnchored ?eTy_NotAnchored ?eSb_NotAnchored ?eSs_NotAnchored ?eC_NoPlan ?eIc_NoPlan ?eTy_NoPlan ?eSb_NoPlan ?eSs_NoPlan ?eC_Undecided ?eIc_Undecided ?eTy_Undecided ?eSb_Undecided ?eSs_Undecided ?eC_NotRenaming ?eIc_NotRenaming ?eTy_NotRenaming ?eSb_NotRenaming ?eSs_NotRenaming ?eC_RedoError ?eIc_RedoError ?eTy_RedoError ?eSb_RedoError ?eSs_RedoError ?eX_InvalidImage ?eSa_InvalidImage ?eGa_InvalidImage ?eGg_InvalidImage ?eNb_InvalidImage ?eIn_InvalidImage ?eTf_InvalidImage ?eLk_InvalidImage ?eCd_InvalidImage ?eKf_InvalidImage ?eKp_InvalidImage ?eHd_InvalidImage ?eCc_InvalidImage ?eSp_InvalidImage ?eTk_InvalidImage ?eMo_InvalidImage ?eX_NotAnchored ?eSa_NotAnchored ?eGa_NotAnchored ?eGg_NotAnchored ?eNb_NotAnchored ?eIn_NotAnchored ?eTf_NotAnchored ?eLk_NotAnchored ?eCd_NotAnchored ?eKf_NotAnchored ?eKp_NotAnchored ?eHd_NotAnchored ?eCc_NotAnchored ?eSp_NotAnchored ?eTk_NotAnchored ?eMo_NotAnchored ?eX_NoPlan ?eSa_NoPlan ?eGa_NoPlan ?eGg_NoPlan ?eNb_NoPlan ?eIn_NoPlan ?eTf_NoPlan ?eLk_NoPlan ?eCd_NoPlan ?eKf_NoPlan ?eKp_NoPlan ?eHd_NoPlan ?eCc_NoPlan ?eSp_NoPlan ?eTk_NoPlan ?eMo_NoPlan ?eX_Undecided ?eSa_Undecided ?eGa_Undecided ?eGg_Undecided ?eNb_Undecided ?eIn_Undecided ?eTf_Undecided ?eLk_Undecided ?eCd_Undecided ?eKf_Undecided ?eKp_Undecided ?eHd_Undecided ?eCc_Undecided ?eSp_Undecided ?eTk_Undecided ?eMo_Undecided ?eQx_NotRenaming ?eKp_NotRenaming ?eGa_NotRenaming ?eGg_NotRenaming ?eHd_NotRenaming ?eCc_NotRenaming ?eSp_NotRenaming ?eTk_NotRenaming ?eMo_NotRenaming ?eS_Undecided_NoPlan
    (case a0 => k_is)
    (case l0 => k_is)
    (case c0 => k_is)
    (case k0 => k_is)
    (case a1 => k_is)
    (case l1 => k_is)
    (case c1 => k_is)
    (case k1 => k_is)
    (case a2 => k_is)
    (case l2 => k_is)
    (case c2 => k_is)
    (case k2 => k_is)
    (case a3 => k_is)
    (case l3 => k_is)
    (case c3 => k_is)
    (case k3 => k_is)
    (case a4 => k_is)
    (case l4 => k_is)
    (case c4 => k_is)
    (case k4 => k_is)
    (case a5 => k_is)
    (case l5 => k_is)
    (case c5 => k_is)
    (case k5 => k_is)
    (case a6 => k_is)
    (case l6 => k_is)
    (case c6 => k_is)
    (case k6 => k_is)
    (case a7 => k_is)
    (case l7 => k_is)
    (case c7 => k_is)
    (case k7 => k_is)
    (case a8 => k_is)
    (case l8 => k_is)
    (case c8 => k_is)
    (case k8 => k_is)
    (case a9 => k_is)
    (case l9 => k_is)
    (case c9 => k_is)
    (case k9 => k_is)
    (case a10 => k_is)
    (case l10 => k_is)
    (case c10 => k_is)
    (case k10 => k_is)
    (case a11 => k_is)
    (case l11 => k_is)
    (case c11 => k_is)
    (case k11 => k_is)
    (case a12 => k_is)
    (case l12 => k_is)
    (case c12 => k_is)
    (case k12 => k_is)
    (case a13 => k_is)
    (case l13 => k_is)
    (case c13 => k_is)
    (case k13 => k_is)
    (case a14 => k_is)
    (case l14 => k_is)
    (case c14 => k_is)
    (case k14 => k_is)
    (case a15 => k_is)
    (case l15 => k_is)
    (case c15 => k_is)
    (case k15 => k_is)
    (case a16 => k_is)
    (case l16 => k_is)
    (case c16 => k_is)
    (case k16 => k_is)
    (case a17 => k_is)
    (case l17 => k_is)
    (case c17 => k_is)
    (case k17 => k_is)
    (case a18 => k_is)
    (case l18 => k_is)
    (case c18 => k_is)
    (case k18 => k_is)
    (case a19 => k_is)
    (case l19 => k_is)
    (case c19 => k_is)
    (case k19 => k_is)
    (case a20 => k_is)
    (case l20 => k_is)
    (case c20 => k_is)
    (case k20 => k_is)
    (case a21 => k_is)
    (case l21 => k_is)
    (case c21 => k_is)
    (case k21 => k_is)
    (case a22 => k_is)
    (case l22 => k_is)
    (case c22 => k_is)
    (case k22 => k_is)
    (case a23 => k_is)
    (case l23 => k_is)
    (case c23 => k_is)
    (case k23 => k_is)
    (case a24 => k_is)
    (case l24 => k_is)
    (case c24 => k_is)
    (case k24 => k_is)
    (case a25 => k_is)
    (case l25 => k_is)
    (case c25 => k_is)
    (case k25 => k_is)
    (case a26 => k_is)
    (case l26 => k_is)
    (case c26 => k_is)
    (case k26 => k_is)
    (case a27 => k_is)
    (case l27 => k_is)
    (case c27 => k_is)
    (case k27 => k_is)
    (case a28 => k_is)
    (case l28 => k_is)
    (case c28 => k_is)
    (case k28 => k_is)
    (case a29 => k_is)
    (case l29 => k_is)
    (case c29 => k_is)
    (case k29 => k_is)
    (case a30 => k_is)
    (case l30 => k_is)
    (case c30 => k_is)
    (case k30 => k_is)
    (case a31 => k_is)
    (case l31 => k_is)
    (case c31 => k_is)
    (case k31 => k_is)
    (case a32 => k_is)
    (case l32 => k_is)
    (case c32 => k_is)
    (case k32 => k_is)
    (case a33 => k_is)
    (case l33 => k_is)
    (case c33 => k_is)
    (case k33 => k_is)
    (case a34 => k_is)
    (case l34 => k_is)
    (case c34 => k_is)
    (case k34 => k_is)
    (case a35 => k_is)
    (case l35 => k_is)
    (case c35 => k_is)
    (case k35 => k_is)
    (case a36 => k_is)
    (case l36 => k_is)
    (case c36 => k_is)
    (case k36 => k_is)
    (case a37 => k_is)
    (case l37 => k_is)
    (case c37 => k_is)
    (case k37 => k_is)
    (case a38 => k_is)
    (case l38 => k_is)
    (case c38 => k_is)
    (case k38 => k_is)
    (case a39 => k_is)
    (case l39 => k_is)
    (case c39 => k_is)
    (case k39 => k_is)
    (case a40 => k_is)
    (case l40 => k_is)
    (case c40 => k_is)
    (case k40 => k_is)
    (case a41 => k_is)
    (case l41 => k_is)
    (case c41 => k_is)
    (case k41 => k_is)
    (case a42 => k_is)
    (case l42 => k_is)
    (case c42 => k_is)
    (case k42 => k_is)
    (case a43 => k_is)
    (case l43 => k_is)
    (case c43 => k_is)
    (case k43 => k_is)
    (case a44 => k_is)
    (case l44 => k_is)
    (case c44 => k_is)
    (case k44 => k_is)
    (case a45 => k_is)
    (case l45 => k_is)
    (case c45 => k_is)
    (case k45 => k_is)
    (case a46 => k_is)
    (case l46 => k_is)
    (case c46 => k_is)
    (case k46 => k_is)
    (case a47 => k_is)
    (case l47 => k_is)
    (case c47 => k_is)
    (case k47 => k_is)
    (case a48 => k_is)
    (case l48 => k_is)
    (case c48 => k_is)
    (case k48 => k_is)
    (case a49 => k_is)
    (case l49 => k_is)
    (case c49 => k_is)
    (case k49 => k_is)
    (case a50 => k_is)
    (case l50 => k_is)
    (case c50 => k_is)
    (case k50 => k_is)
    (case a51 => k_is)
    (case l51 => k_is)
    (case c51 => k_is)
    (case k51 => k_is)
    (case a52 => k_is)
    (case l52 => k_is)
    (case c52 => k_is)
    (case k52 => k_is)
    (case a53 => k_is)
    (case l53 => k_is)
    (case c53 => k_is)
    (case k53 => k_is)
    (case a54 => k_is)
    (case l54 => k_is)
    (case c54 => k_is)
    (case k54 => k_is)
    (case a55 => k_is)
    (case l55 => k_is)
    (case c55 => k_is)
    (case k55 => k_is)
    (case z0 => k_is)
    (case z1 => k_is)
    (case z2 => k_is)
    (case z3 => k_is)
    (case z4 => k_is)
    (case z5 => k_is)
    (case z6 => k_is)
    (case z7 => k_is)
    (case z8 => k_is)
    (case z9 => k_is)
    (case z10 => k_is)
    (case z11 => k_is)
    (case z12 => k_is)
    (case z13 => k_is)
    (case z14 => k_is)
    (case z15 => k_is)
    (case z16 => k_is)
    (case z17 => k_is)
    (case y0 => k_is)
    (case y1 => k_is)
    (case y2 => k_is)
    (case eC_InvalidImage => k_is)
    (case eIc_InvalidImage => k_is)
    (case eTy_InvalidImage => k_is)
    (case eSb_InvalidImage => k_is)
    (case eSs_InvalidImage => k_is)
    (case eC_NotAnchored => k_is)
    (case eIc_NotAnchored => k_is)
    (case eTy_NotAnchored => k_is)
    (case eSb_NotAnchored => k_is)
    (case eSs_NotAnchored => k_is)
    (case eC_NoPlan => k_is)
    (case eIc_NoPlan => k_is)
    (case eTy_NoPlan => k_is)
    (case eSb_NoPlan => k_is)
    (case eSs_NoPlan => k_is)
    (case eC_Undecided => k_is)
    (case eIc_Undecided => k_is)
    (case eTy_Undecided => k_is)
    (case eSb_Undecided => k_is)
    (case eSs_Undecided => k_is)
    (case eC_NotRenaming => k_is)
    (case eIc_NotRenaming => k_is)
    (case eTy_NotRenaming => k_is)
    (case eSb_NotRenaming => k_is)
    (case eSs_NotRenaming => k_is)
    (case eC_RedoError => k_is)
    (case eIc_RedoError => k_is)
    (case eTy_RedoError => k_is)
    (case eSb_RedoError => k_is)
    (case eSs_RedoError => k_is)
    (case eX_InvalidImage => k_is)
    (case eSa_InvalidImage => k_is)
    (case eGa_InvalidImage => k_is)
    (case eGg_InvalidImage => k_is)
    (case eNb_InvalidImage => k_is)
    (case eIn_InvalidImage => k_is)
    (case eTf_InvalidImage => k_is)
    (case eLk_InvalidImage => k_is)
    (case eCd_InvalidImage => k_is)
    (case eKf_InvalidImage => k_is)
    (case eKp_InvalidImage => k_is)
    (case eHd_InvalidImage => k_is)
    (case eCc_InvalidImage => k_is)
    (case eSp_InvalidImage => k_is)
    (case eTk_InvalidImage => k_is)
    (case eMo_InvalidImage => k_is)
    (case eX_NotAnchored => k_is)
    (case eSa_NotAnchored => k_is)
    (case eGa_NotAnchored => k_is)
    (case eGg_NotAnchored => k_is)
    (case eNb_NotAnchored => k_is)
    (case eIn_NotAnchored => k_is)
    (case eTf_NotAnchored => k_is)
    (case eLk_NotAnchored => k_is)
    (case eCd_NotAnchored => k_is)
    (case eKf_NotAnchored => k_is)
    (case eKp_NotAnchored => k_is)
    (case eHd_NotAnchored => k_is)
    (case eCc_NotAnchored => k_is)
    (case eSp_NotAnchored => k_is)
    (case eTk_NotAnchored => k_is)
    (case eMo_NotAnchored => k_is)
    (case eX_NoPlan => k_is)
    (case eSa_NoPlan => k_is)
    (case eGa_NoPlan => k_is)
    (case eGg_NoPlan => k_is)
    (case eNb_NoPlan => k_is)
    (case eIn_NoPlan => k_is)
    (case eTf_NoPlan => k_is)
    (case eLk_NoPlan => k_is)
    (case eCd_NoPlan => k_is)
    (case eKf_NoPlan => k_is)
    (case eKp_NoPlan => k_is)
    (case eHd_NoPlan => k_is)
    (case eCc_NoPlan => k_is)
    (case eSp_NoPlan => k_is)
    (case eTk_NoPlan => k_is)
    (case eMo_NoPlan => k_is)
    (case eX_Undecided => k_is)
    (case eSa_Undecided => k_is)
    (case eGa_Undecided => k_is)
    (case eGg_Undecided => k_is)
    (case eNb_Undecided => k_is)
    (case eIn_Undecided => k_is)
    (case eTf_Undecided => k_is)
    (case eLk_Undecided => k_is)
    (case eCd_Undecided => k_is)
    (case eKf_Undecided => k_is)
    (case eKp_Undecided => k_is)
    (case eHd_Undecided => k_is)
    (case eCc_Undecided => k_is)
    (case eSp_Undecided => k_is)
    (case eTk_Undecided => k_is)
    (case eMo_Undecided => k_is)
    (case eQx_NotRenaming => k_exc)
    (case eKp_NotRenaming => k_is)
    (case eGa_NotRenaming => k_is)
    (case eGg_NotRenaming => k_is)
    (case eHd_NotRenaming => k_is)
    (case eCc_NotRenaming => k_is)
    (case eSp_NotRenaming => k_is)
    (case eTk_NotRenaming => k_is)
    (case eMo_NotRenaming => k_is)
    (case eS_Undecided_NoPlan => k_is)
