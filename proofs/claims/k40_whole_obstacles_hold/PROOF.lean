import PyProof.Rows.All
import Wide.All
import OpenK.AllK
import Wide.FinOn
import KE.GoesEnum
import HandS.Base
import HandS.Call
import HandS.List
import HandS.Comp
import HandS.Ends
import HandS.Dict
import HandS.Iter
import HandS.Text
import HandS.Words
import HandS.WordsList
import HandS.IsInst
import HandS.Walk
import HandS.Codes
import HandS.Conv
import HandS.FStr
import HandS.Text
import HandS.Codes
import KE.KUnpack
import PyProof.RulesMatch
import PyProof.RulesMatchSeq
import PyProof.Rows.MatchSeqLen
import KE.KExcIs
import HandS.Exc
import HandS.ExcInit
import HandS.ExcField
import HandS.ExcIs
import HandS.ExcOwn
import HandS.TryOnly
import HandS.WordsExc
import HandS.Star
import HandS.Defaults
import HandS.More
import HandS.TryMany
import HandS.CallSlots
import HandS.HotCalls
import HandS.Set
import HandS.Strs
import HandS.SetFor
import HandS.TupLen
import HandS.DictComp
import KE.KDictKeyed
import HandS.SetKeys
import HandS.SetBool
import HandS.TupMul
import HandS.Zip
import HandS.Remove
import KE.DatumOrd
import HandS.DictTup
import HandS.ClsMeth
import KE.KIndexOf
import KE.KDictZip
import HandS.Style
import KE.SortData
import HandS.Deep
import HandS.TupLe
import HandS.Gcd
import KE.KMathGC
import HandS.MakeKwOnly
import KE.GoesEnum
import PyProof.Rows.TupAdd
import PySem.Challenge.RW_redolots_k40_whole_obstacles_hold
set_option Elab.async false
set_option linter.all false
set_option maxRecDepth 100000
set_option maxHeartbeats 4000000
/-! enumerate over a tracked tuple or a text, zip over two texts: walks of our own -/
namespace Rv
open PySem PySem.Spec PyProof.Rows L2

/-- an iterator that stands at it: n turns, turn i hands out what out says, as long as ok holds of the tracked heap -/
structure Feed (P : Program) (w : World) (K : PySem.W.Frag) (it : Addr) (n : Nat) (ok : Hp → Prop) (out : Nat → Option V) (st : Nat → Heap → Prop) : Prop where
  cell : ∀ i h, st i h → ∃ ob, h.get? it = some ob ∧ ∀ v, ob.data ≠ .cell v
  stay : ∀ i h1 h2, st i h1 → (∀ ob, h1.get? it = some ob → h2.get? it = some ob) → st i h2
  feed : ∀ (X : Cx), X.prog = P → X.w = w → X.K = K → X.calm = true → ∀ (pins : List (Addr × Obj)) (σ : L2.St) (H : Hp) (s : Shared), Inv X pins σ H s → ok H → H it = none →
    ∃ (fp : List Addr) (Pv : Nat → Value → Prop) (Sv : Nat → Heap → Prop), Draws X.prog X.w X.A.in1 it fp n Pv Sv ∧ (∀ i h, Sv i h → st i h) ∧ (∀ i, st i s.heap → Sv i s.heap) ∧
      (∀ i u, Pv i u → ∃ x, RelV x u ∧ out i = some x) ∧ ∀ b, b ≠ it → H b = none → b ∉ fp

theorem feed_tup {P : Program} {w : World} {K : PySem.W.Frag} (it a : Addr) (xs : List V) :
    Feed P w K it xs.length (fun H => H a = some (.tup xs)) (fun i => xs[i]?) (fun i h => h.IsTupleIter it a i) where
  cell := fun i h q => by
    obtain ⟨ob, e1, e2, e3⟩ := q
    refine ⟨ob, e1, fun v z => ?_⟩
    rw [e3] at z
    cases z
  stay := fun i h1 h2 q k => by
    obtain ⟨ob, e1, e2⟩ := q
    exact ⟨ob, k ob e1, e2⟩
  feed := fun X hP hw hK hc pins σ H s I hg hn => by
    obtain ⟨its, rv, hT, _⟩ := I.tuple (SqT.of (K := X.K) hg)
    have hl : its.toArray.size = xs.length := by
      rw [List.size_toArray]
      exact rv.length.symm
    have nai : a ≠ it := ne_of_none hg hn
    have D := Draws.tuple (prog := X.prog) (w := X.w) (A := X.A.in1) (show X.A.in1.handled = none from I.ok.hd hc) it a nai its.toArray
    rw [hl] at D
    refine ⟨[it, a], _, _, D, fun _ _ q => q.1, fun _ q => ⟨q, hT⟩, fun i u q => ?_, fun b hb hbn hm => ?_⟩
    · have q2 : its[i]? = some u := by simpa using q
      have hi : i < xs.length := by
        have := (List.getElem?_eq_some_iff.mp q2).1
        rw [rv.length]
        exact this
      obtain ⟨u', e1, r1⟩ := rv.get (List.getElem?_eq_getElem hi)
      rw [q2] at e1
      cases e1
      exact ⟨xs[i], r1, List.getElem?_eq_getElem hi⟩
    · rcases List.mem_cons.mp hm with z | z
      · exact hb z
      · have z2 : b = a := by simpa using z
        rw [z2, hg] at hbn
        cases hbn

/-- index and item in a new pair at each turn -/
def Jen (n : Nat) (ok : Hp → Prop) (out : Nat → Option V) : It :=
  ⟨fun i H => i < n ∧ ok H, fun i H v H' => ∃ T x, v = .ref T ∧ H T = none ∧ H' = upd H T (.tup [.int (i : Nat), x]) ∧ out i = some x, fun i H => i = n ∧ ok H⟩
theorem walk_jen {n : Nat} {ok : Hp → Prop} {out : Nat → Option V} : Walk (Jen n ok out) n ok (YPair (fun i => some (.int (i : Nat))) out) := by
  refine ⟨fun _ _ hi q => ⟨hi, q⟩, fun _ q => ⟨rfl, q⟩, fun i H v H' _ _ y => ?_⟩
  obtain ⟨T, x, a1, a2, a3, a4⟩ := y
  exact ⟨T, .int (i : Nat), x, a1, a2, a3, rfl, a4⟩

theorem turn_jen {P : Program} {w : World} {K : PySem.W.Frag} {elts : List Expr} {kk : Nat} {tp : Pos} {e it : Addr} {n : Nat} {ok : Hp → Prop} {out : Nat → Option V} {st : Nat → Heap → Prop}
    (F : Feed P w K it n ok out st) (hne : e ≠ it) :
    Turn P w K (.Tuple elts kk tp) (Jen n ok out) [e, it] e (fun i h => (∃ old, IsEnum h e it (0 + ((i : Nat) : Int)) old) ∧ st i h) where
  mem := List.mem_cons_self ..
  obj := fun i h q b hb => by
    obtain ⟨⟨old, he⟩, hs⟩ := q
    rcases List.mem_cons.mp hb with z | z
    · subst z
      exact ⟨_, he, fun v y => nomatch y⟩
    · have z2 : b = it := by simpa using z
      subst z2
      exact F.cell i h hs
  keep := fun i h1 h2 q k => by
    obtain ⟨⟨old, he⟩, hs⟩ := q
    exact ⟨⟨old, k e (by simp) _ he⟩, F.stay i h1 h2 hs fun ob => k it (by simp) ob⟩
  item := by
    intro X hP hw hK hc i pins s σ H E I hf q hg
    subst hP hw hK
    obtain ⟨⟨old, he⟩, hs⟩ := q
    have fe := hf e (by simp)
    have fi := hf it (by simp)
    obtain ⟨fp, Pv, Sv, D, back, go, val, off⟩ := F.feed X rfl rfl rfl hc pins σ H s I hg.2 fi.1
    refine wpAny_pyNext_enum_itemC D he (go i hs) hg.1 hne (off e hne fe.1) fun u h1 tk hu ho hs1 hT hsz hk => ?_
    obtain ⟨x, rx, ox⟩ := val i u hu
    refine ⟨_, rfl, wpAny_letOwnedTupleGo_enum (s := { s with heap := h1, toks := tk + 1 }) ho fun h2 he2 sb => ?_⟩
    have hel : e < s.heap.objs.size := Heap.lt_size he
    obtain ⟨oi, eoi, _⟩ := F.cell i s.heap hs
    have hil : it < s.heap.objs.size := Heap.lt_size eoi
    have hT2 : h2.get? s.heap.objs.size = some { cls := .type "tuple", data := .seq #[.int (0 + (i : Int)) tk, u] } := (sb.2 _ (Nat.ne_of_gt hel)).trans hT
    have kept : ∀ b ob, b ∉ [e, it] → s.heap.get? b = some ob → h2.get? b = some ob := fun b ob hb z => by
      have n1 : b ≠ e := fun y => hb (by rw [y]; simp)
      have n2 : b ≠ it := fun y => hb (by rw [y]; simp)
      exact (sb.2 b n1).trans (hk b ob n1 n2 z)
    have z0 : (0 + (i : Int)) = ((i : Nat) : Int) := by omega
    have fresh : ObjOk X.prog X.w (upd H s.heap.objs.size (.tup [.int (i : Nat), x])) h2 s.heap.objs.size (.tup [.int (i : Nat), x]) :=
      ⟨Nat.le_trans (show 2 ≤ 3 by decide) (by decide), [.int (0 + (i : Int)) tk, u], .cons ⟨tk, by rw [z0]⟩ (.cons rx .nil), ⟨_, hT2, rfl, _, rfl⟩⟩
    have I2 : Inv X pins σ (upd H s.heap.objs.size (.tup [.int (i : Nat), x])) { s with heap := h2, toks := tk + 1 } :=
      I.turnedNew (ch := [e, it]) kept hf (Nat.le_refl _) fresh
    refine ⟨.ref s.heap.objs.size, _, I2, rfl, ⟨_, x, rfl, I.hok.fresh (Nat.le_refl _), rfl, ox⟩, ⟨⟨u, ?_⟩, F.stay (i + 1) h1 h2 (back _ _ hs1) fun ob y => (sb.2 it hne.symm).trans y⟩, fun b hb => ?_⟩
    · have z1 : (0 + ((i + 1 : Nat) : Int)) = 0 + (i : Int) + 1 := by omega
      rw [z1]
      exact he2
    · have hb2 : b < s.heap.objs.size := by
        rcases List.mem_cons.mp hb with z | z
        · rw [z]; exact hel
        · rw [show b = it by simpa using z]; exact hil
      rw [upd_ne (Nat.ne_of_lt hb2)]
      exact (hf b hb).1
  done := by
    intro X hP hw hK hc i pins s σ H E I hf q hg
    subst hP hw hK
    obtain ⟨⟨old, he⟩, hs⟩ := q
    obtain ⟨rfl, hok⟩ := hg
    obtain ⟨f0, f1, f2, f3, f4, f5⟩ := hf it (by simp)
    obtain ⟨fp, Pv, Sv, D, back, go, val, off⟩ := F.feed X rfl rfl rfl hc pins σ H s I hok f0
    exact wpAny_pyNext_enum_endD D he (go _ hs) fun h1 eb => ⟨rfl, I.turned (t' := s.toks) (fun b ob hb y => eb b ob hb y) f0 f1 f3 f4 f5⟩
  self := fun A i s Q E q h => by
    obtain ⟨⟨old, he⟩, _⟩ := q
    exact wpAny_pyIter_enum he h

theorem en1 {v : Value} {o : Obj} {G : Heap → Prop} (B : Begins v o G) :
    Meets (Builtin.«enumerate.__new__» ⟨[.type "enumerate", v], []⟩) (fun _ R s => G s.heap ∧
      R (.ok (.ret (.ref (s.heap.push o).objs.size)))
        { s with heap := (s.heap.push o).push { cls := .type "enumerate", data := .fields #[.none, .bool false, .ref s.heap.objs.size, rawInt 0, .none, .none] } }) :=
  .of_wp fun prog w A R s h => by
    obtain ⟨hp, g, d, tk, os⟩ := s
    obtain ⟨h1, h⟩ := h
    have hsub := sub_enumerate
    have begun : ∀ {A' : Around} {E : Value → Shared → Prop} {Q : Value → Shared → Prop}, Q (.ref hp.objs.size) ⟨hp.push o, g, d, tk, os⟩ → wpAny (model prog w) A' (pyIter v) Q E ⟨hp, g, d, tk, os⟩ :=
      fun q => B.iter prog w _ _ ⟨hp, g, d, tk, os⟩ _ h1 q
    wp_walk using begun
    refine wpAny_stack_any fun stk => wpAny_pure ?_
    split
    · rename_i c _ _ _ _ _
      cases (c == Value.type "enumerate")
      all_goals (wp_walk using begun; exact ⟨_, rfl, h⟩)
    · wp_walk using begun
      exact ⟨_, rfl, h⟩
theorem enum1 {prog : Program} {w : World} {A : Around} {E : Value → Shared → Prop} {s : Shared} {v : Value} {o : Obj} {G : Heap → Prop} {Q : Value → Shared → Prop} (B : Begins v o G) (h1 : G s.heap)
    (h : ∀ h', IsEnum h' (s.heap.objs.size + 1) s.heap.objs.size 0 .none → h'.get? s.heap.objs.size = some o → (∀ b u, s.heap.get? b = some u → h'.get? b = some u) → Q (.ref (s.heap.objs.size + 1)) { s with heap := h' }) :
    wpAny (model prog w) A (call (.type "enumerate") [v]) Q E s := by
  refine callType_new F.called_enumerate (by decide) (F.typeCall_enumerate_1 _) (F.newCall_enumerate_1 _) (fun ob => F.args_object_init_2 ob _) F.entry_enumerate_new (en1 B) ⟨h1, ?_⟩
  have sz : (s.heap.push o).objs.size = s.heap.objs.size + 1 := Heap.size_push ..
  have here := Heap.get?_push_size (s.heap.push o) (o := { cls := .type "enumerate", data := .fields #[.none, .bool false, .ref s.heap.objs.size, rawInt 0, .none, .none] }) rfl
  rw [sz] at here
  show _ ∧ _
  rw [sz]
  exact ⟨⟨_, here, rfl⟩, h _ here (Heap.get?_push_of_some _ (Heap.get?_push_size _ B.free)) fun b u y => Heap.get?_push_of_some _ (Heap.get?_push_of_some _ y)⟩

/-! zip of two texts -/
end Rv
/-! steps of a reading, one a piece; heaps; the bag of draws -/
namespace Rv
open PySem PySem.Spec PyProof.Rows L2

theorem pe_k {X : Cx} {x : Str} {v : V} {pos : Pos} (hg : Gl X x) (h : ∃ u, X.mg x = some u ∧ RelV v u) (hd : (x == ("__debug__" : Str)) = false := by decide) : PE X (.Name x pos) (tC v) := by
  obtain ⟨u, hm, r⟩ := h
  exact pe_glob hg hm r hd

/-- a def of the top: where it stands, how its arguments bind -/
structure Def (K : PySem.W.Frag) (mg : Str → Option Value) (x : Str) (st : Stmt) (ps : List Str) (f : Addr) (fd : FuncData) : Prop where
  F : Fun K x x st f fd
  b : Binds K fd ps []
  g : mg x = some (.ref f)
theorem def_mk {K : PySem.W.Frag} {h : Heap} {mg : Str → Option Value} {x : Str} {st : Stmt} {ps : List Str} {f : Addr} {oc : Value} {od an : Option Addr} {osl : Array (Option Value)} {kV doc pm cdv ct : Value} (X : K.In h) (G : h.Ns mainGlobals mg)
    (a : PySem.W.nsIn K mainGlobals x = some (some (.ref f))) (l : K.lookup f = some ⟨oc, od, .func (PySem.W.fnOf x x (defArgs st) (defBody st) (defScope st) .none kV doc pm an cdv ct), osl⟩)
    (c : PySem.W.codeIn K cdv x = true) (k : PySem.W.keepIn K (.ref f) = true)
    (hb : ∀ (kV doc pm : Value) (an : Option Addr) (cdv ct : Value) (us : List Value), us.length = ps.length → bindArgs (PySem.W.fnOf x x (defArgs st) (defBody st) (defScope st) .none kV doc pm an cdv ct) ⟨us, []⟩ = pure (ps.zip us)) : ∃ f fd, Def K mg x st ps f fd := by
  have F := fun_mk (st := st) l c k
  exact ⟨f, _, F, F.binds hb, PySem.W.mg_of X G a⟩
theorem const_mk {K : PySem.W.Frag} {h : Heap} {mg : Str → Option Value} {x : Str} {u : Value} {v : V} (X : K.In h) (G : h.Ns mainGlobals mg) (a : PySem.W.nsIn K mainGlobals x = some (some u)) (r : RelV v u) : ∃ u, mg x = some u ∧ RelV v u := ⟨u, PySem.W.mg_of X G a, r⟩

section
variable {σ : L2.St} {H : Hp} {i : Nat} {v x y : V} {ta tb te : TE} {b : Bool} {K : PySem.W.Frag} {t u c : TT} {Q : VK} {QB : Bool → Hp → Prop} {QA : List V → Hp → Prop} {D : Ends} {s1 s2 : TS} {tr : TA} {r : R2}
theorem rd_var (h : σ[i]? = some (some v)) (q : Q v H) : tVar i σ H Q := ⟨v, h, q⟩
theorem rd_c (q : Q v H) : tC v σ H Q := q
theorem rd_op (q : ta σ H fun x H1 => tb σ H1 fun y H2 => r x y H2 Q) : tOp r ta tb σ H Q := q
theorem rd_un {r : V → Hp → VK → Prop} (q : ta σ H fun x H1 => r x H1 Q) : tUn r ta σ H Q := q
theorem rd_U {g : Int → V} {a : Int} (q : Q (g a) H) : rU g (.int a) H Q := ⟨a, rfl, q⟩
theorem rd_I0 {g : Int → Int → V} {a b : Int} (q : Q (g a b) H) : rI0 g (.int a) (.int b) H Q := ⟨a, b, rfl, rfl, q⟩
theorem rd_I {C : Int → Int → Prop} {g : Int → Int → V} {a b : Int} (hc : C a b) (q : Q (g a b) H) : rI C g (.int a) (.int b) H Q := ⟨a, b, rfl, rfl, hc, q⟩
theorem rd_eq (h : scal x y = true) (q : Q (.bl (decide (x = y))) H) : rEq x y H Q := ⟨h, q⟩
theorem rd_ne (h : scal x y = true) (q : Q (.bl (!decide (x = y))) H) : rNe x y H Q := ⟨h, q⟩
theorem rd_k {P : Bool → Prop} (q : P b) : ∃ k, V.bl b = V.bl k ∧ P k := ⟨b, rfl, q⟩
theorem rd_test (q : te σ H fun x H' => ∃ k, x = .bl k ∧ QB k H') : tTest te σ H QB := q
theorem rd_B (q : te σ H fun x H' => ∃ k, x = .bl k ∧ QB k H') : tB te σ H QB := q
theorem rd_not (q : t σ H fun c H1 => QB (!c) H1) : tNot t σ H QB := q
theorem rd_notV (q : te σ H fun x H1 => ∃ c, x = .bl c ∧ Q (.bl (!c)) H1) : tNotV te σ H Q := q
theorem rd_and (q : t σ H fun c H1 => if c = true then u σ H1 QB else QB false H1) : tAnd t u σ H QB := q
theorem rd_or (q : t σ H fun c H1 => if c = true then QB true H1 else u σ H1 QB) : tOr t u σ H QB := q
theorem rd_andV (q : ta σ H fun x H1 => ∃ c, x = .bl c ∧ if c = true then tb σ H1 Q else Q (.bl false) H1) : tAndV ta tb σ H Q := q
theorem rd_orV (q : ta σ H fun x H1 => ∃ c, x = .bl c ∧ if c = true then Q (.bl true) H1 else tb σ H1 Q) : tOrV ta tb σ H Q := q
theorem rd_if (q : t σ H fun c H1 => if c = true then ta σ H1 Q else tb σ H1 Q) : tIf t ta tb σ H Q := q
theorem rd_chain {r' : R2} {tc : TE} (q : ta σ H fun x H1 => tb σ H1 fun y H2 => r x y H2 fun z H3 => ∃ k, z = .bl k ∧ if k = true then tc σ H3 fun w H4 => r' y w H4 Q else Q (.bl false) H3) : tChain r r' ta tb tc σ H Q := q
theorem rd_seq (q : s1 { D with nx := s2 D } σ H) : tSeq s1 s2 D σ H := q
theorem rd_next (q : D.nx σ H) : tNext D σ H := q
theorem rd_asg {g : TG} (q : te σ H fun x H1 => g x σ H1 D.nx) : tAsg te g D σ H := q
theorem rd_name {R : L2.St → Hp → Prop} (q : R (σ.set i (some v)) H) : gName i v σ H R := q
theorem rd_sub {to ti : TE} {ts : TSet} {R : L2.St → Hp → Prop} (q : to σ H fun o H1 => ti σ H1 fun i H2 => ts o i v H2 fun H3 => R σ H3) : gSub to ti ts v σ H R := q
theorem rd_gcons {g : TG} {gs : TGs} {R : L2.St → Hp → Prop} {vs : List V} (q : g v σ H fun σ' H' => gs vs σ' H' R) : gCons g gs (v :: vs) σ H R := ⟨v, vs, rfl, q⟩
theorem rd_gnil {R : L2.St → Hp → Prop} (q : R σ H) : gNil [] σ H R := ⟨rfl, q⟩
theorem rd_gtup {a : Addr} {xs : List V} {n : Nat} {gs : TGs} {R : L2.St → Hp → Prop} (h : H a = some (.tup xs)) (hn : xs.length = n) (q : gs xs σ H R) : gTup K n gs (.ref a) σ H R := ⟨a, xs, rfl, SqT.of h, hn, q⟩
theorem rd_ret (q : te σ H D.rt) : tRet te D σ H := q
theorem rd_drop (q : te σ H fun _ H1 => D.nx σ H1) : tDrop te D σ H := q
theorem rd_ifS (q : t σ H fun b H1 => if b = true then s1 D σ H1 else s2 D σ H1) : tIfS t s1 s2 D σ H := q
theorem rd_nil (q : QA [] H) : tNil σ H QA := q
theorem rd_cons (q : ta σ H fun x H1 => tr σ H1 fun xs H2 => QA (x :: xs) H2) : tCons ta tr σ H QA := q
theorem rd_CB {r : List V → Hp → VK → Prop} (q : tr σ H fun vs H1 => r vs H1 Q) : tCB r tr σ H Q := q
theorem rd_call {sp : Sp} {E : XK} (q : tr σ H fun vs H1 => sp vs H1 Q E) : tCall sp [] E tr σ H Q := by
  show tr σ H fun vs H1 => sp (vs ++ []) H1 Q E
  have e : (fun vs H1 => sp (vs ++ []) H1 Q E) = fun vs H1 => sp vs H1 Q E := by
    funext vs H1
    rw [List.append_nil]
  rw [e]
  exact q
theorem rd_ixL {p : Addr} {xs : List V} {a : Int} (h : SqL K H p xs) (e : atI xs a = some v) (q : Q v H) : rIxL K (.ref p) (.int a) H Q := ⟨p, xs, a, v, rfl, rfl, h, e, q⟩
theorem rd_ixT {p : Addr} {xs : List V} {a : Int} (h : H p = some (.tup xs)) (e : atI xs a = some v) (q : Q v H) : rIxT K (.ref p) (.int a) H Q := ⟨p, xs, a, v, rfl, rfl, SqT.of h, e, q⟩
theorem rd_ixS {z : Str} {a : Int} {c : Nat} (hz : z.length ≤ sizeLine) (e : atI z.cps.toList a = some c) (q : Q (.str ⟨#[c]⟩) H) : rIxS (.str z) (.int a) H Q := ⟨z, a, c, rfl, rfl, hz, e, q⟩
theorem rd_setL {p : Addr} {xs : List V} {a : Int} {j : Nat} {R : Hp → Prop} (h : H p = some (.lst xs)) (e : ixN xs.length a = some j) (q : R (upd H p (.lst (xs.set j v)))) : rSetL (.ref p) (.int a) v H R := ⟨p, xs, a, j, rfl, rfl, h, e, q⟩
end

/-! built-in calls under names of their own -/
def rLenQ (K : PySem.W.Frag) : List V → Hp → VK → Prop := fun xs H Q => ∃ p ys, xs = [.ref p] ∧ (SqL K H p ys ∨ SqT K H p ys) ∧ Q (.int ys.length) H
def rLenZ : List V → Hp → VK → Prop := fun xs H Q => ∃ z, xs = [.str z] ∧ z.length ≤ sizeLine ∧ Q (.int z.length) H
def rIntQ : List V → Hp → VK → Prop := fun xs H Q => ∃ i, xs = [.int i] ∧ Q (.int i) H
def rAbsQ : List V → Hp → VK → Prop := fun xs H Q => ∃ i, xs = [.int i] ∧ Q (.int (if i < 0 then -i else i)) H
def rStrQ : List V → Hp → VK → Prop := fun xs H Q => ∃ i, xs = [.int i] ∧ i.natAbs.log2 < 1920 ∧ Q (.str (toString i)) H
def rTupQ (K : PySem.W.Frag) : List V → Hp → VK → Prop := fun xs H Q => ∃ p ys, xs = [.ref p] ∧ SqL K H p ys ∧ ∀ l, H l = none → Q (.ref l) (upd H l (.tup ys))
def rLstQ (K : PySem.W.Frag) : List V → Hp → VK → Prop := fun xs H Q => ∃ p ys, xs = [.ref p] ∧ (SqL K H p ys ∨ SqT K H p ys) ∧ ∀ l, H l = none → Q (.ref l) (upd H l (.lst ys))
def rMinQ : List V → Hp → VK → Prop := fun xs H Q => ∃ i j, xs = [.int i, .int j] ∧ Q (.int (if j < i then j else i)) H
section
variable {X : Cx}
theorem call_lenQ : CallR X (.builtin "len") (rLenQ X.K) := call_len_seq
theorem call_lenZ : CallR X (.builtin "len") rLenZ := call_len_str
theorem call_intQ : CallR X (.type "int") rIntQ := fun pins s σ H xs us Q I r h => call_int1 pins s σ H xs us Q I r (.inl h)
theorem call_absQ : CallR X (.builtin "abs") rAbsQ := call_abs
theorem call_strQ : CallR X (.type "str") rStrQ := call_str_int
theorem call_tupQ : CallR X (.type "tuple") (rTupQ X.K) := fun pins s σ H xs us Q I r h => call_tuple_of pins s σ H xs us Q I r (by
  obtain ⟨p, ys, e, h1, h2⟩ := h
  exact ⟨p, ys, e, .inl ⟨h1, h2⟩⟩)
theorem call_lstQ : CallR X (.type "list") (rLstQ X.K) := call_list_of
theorem call_minQ (hc : X.calm = true) : CallR X (.builtin "min") rMinQ := call_min2 hc
end
section
variable {H H1 H2 : Hp} {p a : Addr} {xs : List V} {K : PySem.W.Frag} {Q : VK} {o : HO} {A B : Prop} {b : Bool}


theorem rd_ixM {v : V} {i : Int} (h : H p = some (.lst xs)) (e : atI xs i = some v) (q : Q v H) : rIxL K (.ref p) (.int i) H Q := ⟨p, xs, i, v, rfl, rfl, SqL.of h, e, q⟩

theorem rd_lenT (h : H p = some (.tup xs)) (q : Q (.int xs.length) H) : rLenQ K [.ref p] H Q := ⟨p, xs, rfl, .inr (SqT.of h), q⟩
theorem rd_lenL (h : H p = some (.lst xs)) (q : Q (.int xs.length) H) : rLenQ K [.ref p] H Q := ⟨p, xs, rfl, .inl (SqL.of h), q⟩
theorem rd_lenZ {z : Str} (hz : z.length ≤ sizeLine) (q : Q (.int z.length) H) : rLenZ [.str z] H Q := ⟨z, rfl, hz, q⟩
theorem rd_intQ {i : Int} (q : Q (.int i) H) : rIntQ [.int i] H Q := ⟨i, rfl, q⟩
theorem rd_absQ {i : Int} (q : Q (.int (if i < 0 then -i else i)) H) : rAbsQ [.int i] H Q := ⟨i, rfl, q⟩
theorem rd_minQ {i j : Int} (q : Q (.int (if j < i then j else i)) H) : rMinQ [.int i, .int j] H Q := ⟨i, j, rfl, q⟩
theorem rd_strQ {i : Int} (h0 : 0 ≤ i) (h1 : i < 10) (q : Q (.str (toString i)) H) : rStrQ [.int i] H Q := ⟨i, rfl, Nat.lt_of_le_of_lt (Nat.log2_le_self _) (by omega), q⟩
theorem rd_isiT {T : String} (h : H p = some (.tup xs)) (e : kitB "tuple" T = some b) (q : Q (.bl b) H) : rIsi K [.ref p, .ty T] H Q := ⟨_, _, _, _, b, rfl, .ty T, .base (.tup h), kit_ty e, q⟩
theorem rd_isiL {T : String} (h : H p = some (.lst xs)) (e : kitB "list" T = some b) (q : Q (.bl b) H) : rIsi K [.ref p, .ty T] H Q := ⟨_, _, _, _, b, rfl, .ty T, .base (.lst h), kit_ty e, q⟩
theorem rd_isiI {T : String} {i : Int} (e : kitB "int" T = some b) (q : Q (.bl b) H) : rIsi K [.int i, .ty T] H Q := ⟨_, _, _, _, b, rfl, .ty T, .base (.int i), kit_ty e, q⟩
theorem rd_isiS {T : String} {z : Str} (e : kitB "str" T = some b) (q : Q (.bl b) H) : rIsi K [.str z, .ty T] H Q := ⟨_, _, _, _, b, rfl, .ty T, .base (.str z), kit_ty e, q⟩
theorem rd_isiB {T : String} {c : Bool} (e : kitB "bool" T = some b) (q : Q (.bl b) H) : rIsi K [.bl c, .ty T] H Q := ⟨_, _, _, _, b, rfl, .ty T, .base (.bl c), kit_ty e, q⟩
theorem kit_tt : kitB "tuple" "tuple" = some true := by decide +kernel
theorem kit_ii : kitB "int" "int" = some true := by decide +kernel
theorem kit_ib : kitB "int" "bool" = some false := by decide +kernel
theorem kit_ss : kitB "str" "str" = some true := by decide +kernel
theorem kit_bb : kitB "bool" "bool" = some true := by decide +kernel
theorem iteNT (h : B) : if (!true) = true then A else B := h
theorem iteNF (h : A) : if (!false) = true then A else B := h
theorem back (S : Same H1 H2) (h : H1 p = some o) : H2 p = some o := S _ _ h
end

section
variable {σ : L2.St} {H : Hp} {K : PySem.W.Frag} {Q : VK} {tb te : TE} {D p : Addr} {xs : List V}
theorem rd_yes {QB : Bool → Hp → Prop} (q : QB true H) : tYes σ H QB := q

theorem rd_all {bs : List Bool} (h : H p = some (.lst (bs.map V.bl))) (q : Q (.bl (bs.all id)) H) : rAll K [.ref p] H Q := ⟨p, bs, rfl, SqL.of h, q⟩
theorem rd_M1 {r : V → List V → Hp → VK → Prop} {z : Str} (q : te σ H fun y H2 => r (.str z) [y] H2 Q) : tM1 r (tC (.str z)) te σ H Q := ⟨⟨z, rfl⟩, q⟩



/-- a list's append, the list an own one -/
theorem rd_app {y : V} (h : H p = some (.lst xs)) (hz : xs.length < 1000) (q : Q .non (upd H p (.lst (xs ++ [y])))) : rAppend (.ref p) [y] H Q := ⟨p, xs, y, rfl, rfl, h, small1000 (by omega), q⟩
theorem rd_BMv {t : TA} {i : Nat} {r : V → List V → Hp → VK → Prop} (hv : σ[i]? = some (some (.ref p))) (h : H p = some (.lst xs)) (q : t σ H fun vs H2 => r (.ref p) vs H2 Q) : tBM K "list" r (tVar i) t σ H Q :=
  ⟨.ref p, hv, .inl ⟨rfl, _, SqL.of h⟩, q⟩
end
/-! loops and comprehensions under names of their own -/
def Fr (J : It) (g : TG) (tb : TS) (D : Ends) (σ : L2.St) (H : Hp) : Prop :=
  ∃ W : Nat → Nat → L2.St → Hp → Prop, (∃ m, W 0 m σ H) ∧ ∀ i m σ H, W i m σ H →
    (J.stop i H ∧ D.nx σ H) ∨ (J.go i H ∧ ∃ N : L2.St → Hp → Prop, (∀ σ' H', N σ' H' → ∃ m', m' < m ∧ W (i + 1) m' σ' H') ∧ ∀ x H', J.yld i H x H' → g x σ H' fun σ2 H2 => tb { D with nx := N, ct := N, bk := D.nx } σ2 H2)
def Lc (J : It) (g : TG) (tt : TT) (te : TE) (vs : List Nat) (σ : L2.St) (H0 : Hp) (Q : VK) : Prop :=
  ∀ D, H0 D = none → ∃ W : Nat → Nat → Hp → Prop, (∃ m, W 0 m (upd H0 D (.lst []))) ∧ ∀ i m H, W i m H →
    (J.stop i H ∧ Q (.ref D) H) ∨ (J.go i H ∧ ∃ Nx : Hp → Prop, (∀ H', Nx H' → ∃ m', m' < m ∧ W (i + 1) m' H') ∧ ∀ x H', J.yld i H x H' → g x (wipe σ vs) H' fun σ2 H2 => wipe σ2 vs = wipe σ vs ∧ tt σ2 H2 fun b H3 =>
      if b = true then te σ2 H3 fun y H4 => ∃ acc, H4 D = some (.lst acc) ∧ acc.length < sizeLine ∧ Nx (upd H4 D (.lst (acc ++ [y]))) else Nx H3)
def ItT (K : PySem.W.Frag) (R : It → Hp → Prop) (x : V) (H : Hp) : Prop := ∃ a, x = .ref a ∧ (∃ xs, SqT K H a xs) ∧ R (Itt K a) H
def ItL (K : PySem.W.Frag) (R : It → Hp → Prop) (x : V) (H : Hp) : Prop := ∃ a, x = .ref a ∧ (∃ xs, SqL K H a xs) ∧ R (Itl K a) H
def Rg1 (R : It → Hp → Prop) (vs : List V) (H : Hp) : Prop := ∃ j : Int, vs = [.int j] ∧ -(2 ^ 62) ≤ j ∧ j < 2 ^ 62 ∧ R (Itr 0 j.toNat) H
section
variable {σ : L2.St} {H : Hp} {K : PySem.W.Frag} {Q : VK} {te : TE} {tr : TA} {p : Addr} {xs : List V} {wi : TI} {g : TG} {tt : TT} {vs : List Nat} {tb : TS} {D : Ends} {R : It → Hp → Prop}
theorem rd_for (q : wi σ H fun J H1 => Fr J g tb D σ H1) : tFor wi g tb D σ H := q
theorem rd_lc (q : wi σ H fun J H1 => Lc J g tt te vs σ H1 Q) : tLc wi g tt te vs σ H Q := q
theorem rd_iTup (q : te σ H fun x H1 => ItT K R x H1) : iTup K te σ H R := q
theorem rd_iList (q : te σ H fun x H1 => ItL K R x H1) : iList K te σ H R := q
theorem rd_iRg1 (q : tr σ H fun vs H1 => Rg1 R vs H1) : iRng1 tr σ H R := q
theorem rd_ItT (h : H p = some (.tup xs)) (q : R (Itt K p) H) : ItT K R (.ref p) H := ⟨p, rfl, ⟨xs, SqT.of h⟩, q⟩
theorem rd_ItL (h : H p = some (.lst xs)) (q : R (Itl K p) H) : ItL K R (.ref p) H := ⟨p, rfl, ⟨xs, SqL.of h⟩, q⟩
theorem rd_Rg1 {j : Int} (h : -100000 ≤ j ∧ j ≤ 100000) (q : R (Itr 0 j.toNat) H) : Rg1 R [.int j] H := ⟨j, rfl, by omega, by omega, q⟩
end
theorem fr_it {J : It} {n : Nat} {G : Hp → Prop} {Y : Nat → Hp → V → Hp → Prop} (w : Walk J n G Y) {g : TG} {tb : TS} {D : Ends} {σ : L2.St} {H : Hp} (Pv : Nat → L2.St → Hp → Prop) (h0 : Pv 0 σ H) (hG : ∀ i σ H, i ≤ n → Pv i σ H → G H)
    (hs : ∀ i x σ H H', i < n → Pv i σ H → Y i H x H' → g x σ H' fun σ2 H2 => tb { D with nx := Pv (i + 1), ct := Pv (i + 1), bk := D.nx } σ2 H2) (hd : ∀ σ H, Pv n σ H → D.nx σ H) : Fr J g tb D σ H := for_it w Pv h0 hG hs hd
/-- a comprehension whose items are told beforehand: ys -/
theorem lc_map {J : It} {n : Nat} {G : Hp → Prop} {Y : Nat → Hp → V → Hp → Prop} (w : Walk J n G Y) {g : TG} {tt : TT} {te : TE} {vs : List Nat} {σ : L2.St} {H0 : Hp} {Q : VK} (ys : List V) (hn : ys.length = n) (sm : n ≤ 1000)
    (hG : ∀ H, Same H0 H → G H)
    (hs : ∀ i x H H' (Qc : VK) (R : Hp → Prop), i < n → Same H0 H → Y i H x H' → (∀ y H4, Same H H4 → ys[i]? = some y → Qc y H4) →
      g x (wipe σ vs) H' fun σ2 H2 => wipe σ2 vs = wipe σ vs ∧ tt σ2 H2 fun b H3 => if b = true then te σ2 H3 Qc else R H3)
    (hd : ∀ H D, Same H0 H → H0 D = none → H D = some (.lst ys) → Q (.ref D) H) : Lc J g tt te vs σ H0 Q := fun D nD =>
  lc_it w (Qd := fun H => Q (.ref D) H) (fun i H => Same H0 H ∧ H D = some (.lst (ys.take i))) ⟨fun a o e => by rw [upd_ne (ne_of_none e nD)]; exact e, upd_same⟩ (fun i H _ p => hG H p.1)
    (fun i x H H' hi p y => hs i x H H' _ _ hi p.1 y fun z H4 S ez => by
      refine ⟨ys.take i, S _ _ p.2, small1000 (by rw [List.length_take]; omega), fun a o e => ?_, ?_⟩
      · rw [upd_ne (ne_of_none e nD)]
        exact S _ _ (p.1 _ _ e)
      · rw [upd_same, List.take_add_one, ez]
        rfl)
    (fun H p => hd H D p.1 nD (by rw [p.2, List.take_of_length_le (by omega)]))
theorem fr_rng0 {n : Nat} {g : TG} {tb : TS} {D : Ends} {σ : L2.St} {H : Hp} (Pv : Nat → L2.St → Hp → Prop) (h0 : Pv 0 σ H)
    (hs : ∀ (i : Nat) σ H, i < n → Pv i σ H → g (.int (i : Int)) σ H fun σ2 H2 => tb { D with nx := Pv (i + 1), ct := Pv (i + 1), bk := D.nx } σ2 H2) (hd : ∀ σ H, Pv n σ H → D.nx σ H) : Fr (Itr 0 n) g tb D σ H :=
  for_range Pv h0 (fun i σ H hi p => by
    have q := hs i σ H hi p
    rw [← Int.zero_add (i : Int)] at q
    exact q) hd
theorem rd_sl {r : V → Option Int → Option Int → Hp → VK → Prop} {te : TE} {tl th : TO} {σ : L2.St} {H : Hp} {Q : VK} (q : te σ H fun x H1 => tl σ H1 fun l H2 => th σ H2 fun u H3 => r x l u H3 Q) : tSl r te tl th σ H Q := q
theorem rd_noP {σ : L2.St} {H : Hp} {QO : Option Int → Hp → Prop} (q : QO none H) : tNoPart σ H QO := q
theorem rd_part {t : TE} {σ : L2.St} {H : Hp} {QO : Option Int → Hp → Prop} (q : t σ H fun x H1 => ∃ i, x = .int i ∧ QO (some i) H1) : tPart t σ H QO := q
theorem rd_i {i : Int} {P : Int → Prop} (q : P i) : ∃ k, V.int i = V.int k ∧ P k := ⟨i, rfl, q⟩
theorem rd_slL {K : PySem.W.Frag} {p : Addr} {xs : List V} {lo hi : Option Int} {H : Hp} {Q : VK} (h : SqL K H p xs) (q : ∀ l, H l = none → Q (.ref l) (upd H l (.lst (cutV xs lo hi)))) : rSlL K (.ref p) lo hi H Q := ⟨p, xs, rfl, h, q⟩
/-- a comprehension over a range -/
theorem walk_rng {n : Nat} : Walk (Itr 0 n) n (fun _ => True) (fun i H x H' => H' = H ∧ x = .int (i : Nat)) :=
  (walk_range (lo := 0)).mono (fun _ _ => trivial) fun i H x H' _ _ y => ⟨y.1, by rw [y.2]; show V.int (0 + (i : Int)) = _; rw [Int.zero_add]⟩
theorem new_gen {H : Hp} {p : Addr} (o : HO) (np : H p = none) : ∃ H', H' = upd H p o ∧ Same H H' ∧ H' p = some o := ⟨_, rfl, fun a u e => by rw [upd_ne (ne_of_none e np)]; exact e, upd_same⟩
theorem same_new {H0 H : Hp} {p : Addr} {o : HO} (S : Same H0 H) (np : H p = none) : Same H0 (upd H p o) := fun a u e => by
  have e2 := S a u e
  rw [upd_ne (ne_of_none e2 np)]
  exact e2
theorem same_mut {H0 H : Hp} {p : Addr} {o : HO} (S : Same H0 H) (np : H0 p = none) : Same H0 (upd H p o) := fun a u e => by
  rw [upd_ne (ne_of_none e np)]
  exact S a u e
theorem atI_int {α : Type} {xs : List α} {a : Int} (h0 : 0 ≤ a) (h1 : a < xs.length) : ∃ v, atI xs a = some v ∧ xs[a.toNat]? = some v ∧ v ∈ xs := by
  have hj : a.toNat < xs.length := by omega
  refine ⟨xs[a.toNat], ?_, List.getElem?_eq_getElem hj, List.getElem_mem hj⟩
  have e : a = ((a.toNat : Nat) : Int) := by omega
  have q := atI_nat (xs := xs) (j := a.toNat) (List.getElem?_eq_getElem hj)
  rw [← e] at q
  exact q
theorem ixN_of {n : Nat} {a : Int} {j : Nat} (e : a = (j : Int)) (h : j < n) : ixN n a = some j := by
  subst e
  unfold ixN
  rw [if_pos (by omega), if_pos (by omega), Int.toNat_natCast]

theorem fmod_in {a m : Int} (h : 0 < m) : 0 ≤ a.fmod m ∧ a.fmod m < m := by
  rw [Int.fmod_eq_emod_of_nonneg _ (by omega)]
  exact ⟨Int.emod_nonneg _ (by omega), Int.emod_lt_of_pos _ h⟩
/-! the bag of draws: at c the script's cells, at b [cells, place, buffer, seed, count] -/
section
variable {c b p a : Addr} {ns : List Int} {H0 H H1 H2 : Hp} {o : HO} {xs : List V}
end
/-! a list of ints against the empty list -/
theorem dp_ints {K : PySem.W.Frag} {H : Hp} : ∀ fs : List Int, DpAll K H (fs.map V.int) (fs.map PyData.int)
  | [] => .nil
  | x :: r => .cons (.int x) (dp_ints r)
theorem lay_ints : ∀ fs : List Int, PyData.canLayAll0 (fs.map PyData.int) = true ∧ PyData.depthAll (fs.map PyData.int) = 0
  | [] => ⟨rfl, rfl⟩
  | x :: r => by
    obtain ⟨h1, h2⟩ := lay_ints r
    constructor
    · show (PyData.canLay0 (.int x) && PyData.canLayAll0 (r.map PyData.int)) = true
      rw [h1]
      rfl
    · show max (PyData.depth (.int x)) (PyData.depthAll (r.map PyData.int)) = 0
      rw [h2]
      rfl
theorem shaped_ints (fs : List Int) : SeqAt.shaped (.list (fs.map PyData.int)) = true := by
  obtain ⟨h1, h2⟩ := lay_ints fs
  unfold SeqAt.shaped
  rw [Bool.and_eq_true]
  refine ⟨h1, decide_eq_true ?_⟩
  show PyData.depthAll (fs.map PyData.int) + 1 ≤ 64
  rw [h2]
  decide
theorem rd_neN {K : PySem.W.Frag} {H : Hp} {Q : VK} {p p2 : Addr} {fs : List Int} (h : H p = some (.lst (fs.map V.int))) (h2 : H p2 = some (.lst [])) (q : Q (.bl (!fs.isEmpty)) H) : rNeD K (.ref p) (.ref p2) H Q := by
  refine ⟨_, _, .lst (SqL.of h) (dp_ints fs), .lst (SqL.of h2) .nil, shaped_ints fs, by decide, ?_⟩
  cases fs with
  | nil => exact q
  | cons x r => exact q
/-! further walks -/
def ItS (R : It → Hp → Prop) (v : V) (H : Hp) : Prop := ∃ x, v = .str x ∧ R (Its x) H
section
variable {σ : L2.St} {H : Hp} {K : PySem.W.Frag} {Q : VK} {te : TE} {tr : TA} {p p2 : Addr} {xs ys : List V} {R : It → Hp → Prop}
theorem rd_iStr (q : te σ H fun v H1 => ItS R v H1) : iStr te σ H R := q
theorem rd_ItS {x : Str} (q : R (Its x) H) : ItS R (.str x) H := ⟨x, rfl, q⟩
theorem rd_rep {k : Int} (h : H p = some (.lst xs)) (k0 : 0 ≤ k) (k1 : k ≤ 1000) (hl : xs.length ≤ 10) (q : ∀ l, H l = none → Q (.ref l) (upd H l (.lst (List.replicate k.toNat xs).flatten))) : rRep (.ref p) (.int k) H Q := by
  refine ⟨p, k, xs, rfl, rfl, h, by omega, by omega, ?_, q⟩
  have e1 : xs.length * k.toNat ≤ 10 * 1000 := Nat.mul_le_mul hl (by omega)
  exact Nat.le_trans e1 (by decide)
end
end Rv
/-! the mathematics of lines over looks -/
namespace Rv
open PySem PySem.Spec PyProof.Rows L2
/-- the code of a block's sign -/
def sg (e : Int) : Nat := if e = -1 then 46 else 48 + (e.fdiv 100).toNat
def one (c : Nat) : Str := ⟨#[c]⟩
def txt (cs : List Nat) : Str := ⟨cs.toArray⟩
def codes (es : List Int) : List Nat := es.map sg
def Img (es : List Int) : Prop := 1 ≤ es.length ∧ es.length ≤ 12 ∧ ∀ e ∈ es, -1 ≤ e ∧ e ≤ 999
theorem txt_inj {a b : List Nat} (h : txt a = txt b) : a = b := by
  have q := congrArg (fun z : Str => z.cps.toList) h
  exact q
theorem sgn_inj {a b : Nat} (h : one a = one b) : a = b := by
  have q := congrArg (fun z : Str => z.cps.toList) h
  simpa [one] using q
theorem digit_txt : ∀ k : Nat, k < 10 → (Str.ofString (toString (k : Int))) = one (48 + k) := by decide +kernel
theorem digit_txtI {i : Int} (h0 : 0 ≤ i) (h1 : i < 10) : Str.ofString (toString i) = one (48 + i.toNat) := by
  obtain ⟨k, rfl⟩ : ∃ k : Nat, i = (k : Int) := ⟨i.toNat, by omega⟩
  exact digit_txt k (by omega)
theorem kind_small {e : Int} (h0 : 0 ≤ e) (h1 : e ≤ 999) : 0 ≤ e.fdiv 100 ∧ e.fdiv 100 < 10 := by
  rw [Int.fdiv_eq_ediv_of_nonneg _ (by decide)]
  omega
theorem join_sg (cs : List Nat) : Txt.join (Str.ofString "") (cs.map one) = txt cs := by
  rw [TL.join_eq]
  refine TL.ext_tl ?_
  rw [TL.tl_join]
  have go : ∀ cs : List Nat, TL.joinL (TL.tl (Str.ofString "")) ((cs.map one).map TL.tl) = cs := fun cs => by
    induction cs with
    | nil => rfl
    | cons x r ih =>
      cases r with
      | nil => rfl
      | cons y r => 
        show TL.tl (one x) ++ (TL.tl (Str.ofString "") ++ TL.joinL (TL.tl (Str.ofString "")) (((y :: r).map one).map TL.tl)) = x :: y :: r
        rw [ih]
        rfl
  exact go cs
theorem ones_sum (cs : List Nat) : ((cs.map one).map (·.length)).sum = cs.length := by
  induction cs with
  | nil => rfl
  | cons x r ih =>
    simp only [List.map_cons, List.sum_cons, List.length_cons, ih]
    show 1 + r.length = r.length + 1
    omega
/-- does a guard's sign fit -/
def fitC (s v : Nat) : Bool := if s = 45 then true else if s = 42 then !decide (v = 46) else decide (s = v)
def fitsL (gs vs : List Nat) : Bool := ((gs.zip vs).map fun p => fitC p.1 p.2).all id
def Sign (c : Nat) : Prop := c = 46 ∨ c = 42 ∨ c = 45 ∨ (48 ≤ c ∧ c ≤ 57)
theorem fits_iff {gs vs : List Nat} (hl : gs.length ≤ vs.length) : fitsL gs vs = true ↔ ∀ (k : Nat) (h : k < gs.length), fitC gs[k] (vs[k]'(by omega)) = true := by
  unfold fitsL
  rw [List.all_eq_true]
  constructor
  · intro h k hk
    refine h _ (List.mem_map.mpr ⟨(gs[k], vs[k]'(by omega)), ?_, rfl⟩)
    have hz : k < (gs.zip vs).length := by rw [List.length_zip]; omega
    have e : (gs.zip vs)[k] = (gs[k], vs[k]'(by omega)) := List.getElem_zip
    rw [← e]
    exact List.getElem_mem hz
  · intro h x hx
    obtain ⟨p, hp, rfl⟩ := List.mem_map.mp hx
    obtain ⟨k, hk, e⟩ := List.mem_iff_getElem.mp hp
    rw [List.length_zip] at hk
    rw [List.getElem_zip] at e
    rw [← e]
    exact h k (by omega)
/-- a row's words -/
def sCopy : Str := Str.ofString "copy"
def sMove : Str := Str.ofString "move"
def sClear : Str := Str.ofString "clear"
structure Ln where
  w : Str
  t : Int
  o : Int
  g : List Nat
def Ln.vals (r : Ln) : List V := [.str r.w, .int r.t, .int r.o, .str (txt r.g)]
structure LnOk (n : Nat) (r : Ln) : Prop where
  t0 : 0 ≤ r.t
  t1 : r.t < n
  word : (r.w = sClear ∧ r.o = -1) ∨ ((r.w = sCopy ∨ r.w = sMove) ∧ 0 ≤ r.o ∧ r.o < n ∧ r.o ≠ r.t)
  gl : r.g = [] ∨ r.g.length = n
  gs : ∀ c ∈ r.g, Sign c
theorem codes_len (es : List Int) : (codes es).length = es.length := by simp [codes]
/-- the look behind a line, by the look and by the image -/
theorem atI_ints {es : List Int} {k : Int} (h0 : 0 ≤ k) (h1 : k < es.length) : atI (es.map V.int) k = some (.int (es.getD k.toNat 0)) := by
  obtain ⟨v, e1, e2, _⟩ := atI_int (xs := es.map V.int) h0 (by rw [List.length_map]; exact h1)
  rw [e1, ← e2, List.getElem?_map, List.getD_eq_getElem?_getD, List.getElem?_eq_getElem (by omega)]
  rfl
end Rv
/-! lines one behind the other; twice is once; lists of tuples in a heap -/
namespace Rv
open PySem PySem.Spec PyProof.Rows L2
theorem getD_get {es : List Int} {k : Nat} (h : k < es.length) : es.getD k 0 = es[k] := by
  rw [List.getD_eq_getElem?_getD, List.getElem?_eq_getElem h]
  rfl
/-! lists of tuples -/
def TupsAt (H : Hp) (ps : List Addr) (vss : List (List V)) : Prop := ps.length = vss.length ∧ ∀ (i : Nat) (vs : List V), vss[i]? = some vs → ∃ p, ps[i]? = some p ∧ H p = some (.tup vs)
section
variable {H H' : Hp} {ps : List Addr} {vss : List (List V)} {p : Addr} {vs : List V} {c b : Addr} {ns : List Int}
theorem TupsAt.nil : TupsAt H [] [] := ⟨rfl, fun i vs e => by simp at e⟩
theorem TupsAt.same (S : Same H H') (h : TupsAt H ps vss) : TupsAt H' ps vss := ⟨h.1, fun i vs e => by
  obtain ⟨p, e1, e2⟩ := h.2 i vs e
  exact ⟨p, e1, S _ _ e2⟩⟩
/-- an object that is no tuple changes -/
theorem TupsAt.mut {a : Addr} {xs : List V} {o : HO} (ha : H a = some (.lst xs)) (h : TupsAt H ps vss) : TupsAt (upd H a o) ps vss := ⟨h.1, fun i vs e => by
  obtain ⟨p, e1, e2⟩ := h.2 i vs e
  exact ⟨p, e1, by rw [upd_ne (ne_of e2 ha (by intro z; cases z))]; exact e2⟩⟩
theorem TupsAt.app (h : TupsAt H ps vss) (hp : H p = some (.tup vs)) : TupsAt H (ps ++ [p]) (vss ++ [vs]) := ⟨by rw [List.length_append, List.length_append, h.1]; rfl, fun i us e => by
  by_cases k : i < vss.length
  · rw [List.getElem?_append_left k] at e
    obtain ⟨q, e1, e2⟩ := h.2 i us e
    exact ⟨q, by rw [List.getElem?_append_left (by rw [h.1]; exact k)]; exact e1, e2⟩
  · rw [List.getElem?_append_right (by omega)] at e
    have hi : i - vss.length = 0 := by
      have := (List.getElem?_eq_some_iff.mp e).1
      simp at this
      omega
    rw [hi] at e
    have e3 : vs = us := by simpa using e
    refine ⟨p, ?_, e3 ▸ hp⟩
    rw [List.getElem?_append_right (by rw [h.1]; omega), h.1, hi]
    rfl⟩
theorem TupsAt.drop (h : TupsAt H ps vss) (k : Nat) : TupsAt H (ps.drop k) (vss.drop k) := ⟨by rw [List.length_drop, List.length_drop, h.1], fun i vs e => by
  rw [List.getElem?_drop] at e
  obtain ⟨q, e1, e2⟩ := h.2 _ vs e
  exact ⟨q, by rw [List.getElem?_drop]; exact e1, e2⟩⟩
end
def rows (rs : List Ln) : List (List V) := rs.map Ln.vals
theorem take_next {α : Type} {rs : List α} {i : Nat} (h : i < rs.length) : rs.take (i + 1) = rs.take i ++ [rs[i]] := by
  rw [List.take_add_one, List.getElem?_eq_getElem h]
  rfl
end Rv
/-! flows; texts repeated; lists of lines compared -/
namespace Rv
open PySem PySem.Spec PyProof.Rows L2
def own (n : Nat) : List Int := (List.range n).map fun (i : Nat) => (i : Int)
theorem own_len (n : Nat) : (own n).length = n := by simp [own]
/-! deep comparisons -/
end Rv
/-! the match statement: patterns of texts, names and sequences over lists -/
namespace Rv
open PySem PySem.Spec PyProof.Rows L2
abbrev Bs := List (Nat × V)
abbrev TP := V → Hp → (Option Bs → Hp → Prop) → Prop
abbrev TPs := List V → Hp → (Option Bs → Hp → Prop) → Prop
section
variable {X : Cx}
end
/-! steps of these readings -/
section
variable {σ : L2.St} {H : Hp} {K : PySem.W.Frag} {te : TE} {tc tr : TC} {D : Ends} {tp : TP} {ts : TPs} {tg : TT} {tb : TS} {v : V} {Q : Option Bs → Hp → Prop} {a : Addr} {xs : List V} {n : Nat} {r : List V}
end
end Rv
/-! texts of lines: words, numbers, what is read -/
namespace Rv
open PySem PySem.Spec PyProof.Rows L2
/-! rules under names of their own -/
def rIsNQ : R2 := fun x y H Q => y = .non ∧ Q (.bl (decide (x = .non))) H
section
variable {X : Cx}
theorem op_isNQ : OpR X (compareOp .Is) rIsNQ := op_isN
end
section
variable {σ : L2.St} {H : Hp} {K : PySem.W.Frag} {Q : VK} {te to : TE} {ts : List TE} {a b acc : List Nat} {p : Addr} {xs : List V} {QB : Bool → Hp → Prop}
theorem rd_isN {v : V} (q : Q (.bl (decide (v = .non))) H) : rIsNQ v .non H Q := ⟨rfl, q⟩
end
/-! the numbers of blocks, written -/
/-! what is read -/
structure RdOk (r : Ln) : Prop where
  t0 : 0 ≤ r.t
  t1 : r.t < 12
  word : (r.w = sClear ∧ r.o = -1) ∨ ((r.w = sCopy ∨ r.w = sMove) ∧ 0 ≤ r.o ∧ r.o < 12 ∧ r.o ≠ r.t)
  gl : r.g.length ≤ 12
  gs : ∀ c ∈ r.g, Sign c
/-! deep comparisons of lines that are read -/
end Rv
/-! own errors: made, raised, caught, asked -/
namespace Rv
open PySem PySem.Spec PyProof.Rows L2
/-- what stands at the top under a name, if it is an object -/
def atTop (K : PySem.W.Frag) (x : Str) : Addr := match PySem.W.nsIn K mainGlobals x with
  | some (some (.ref a)) => a
  | _ => 0
theorem atTop_of {K : PySem.W.Frag} {x : Str} {a : Addr} (h : PySem.W.nsIn K mainGlobals x = some (some (.ref a))) : atTop K x = a := by
  unfold atTop
  rw [h]
/-- an error class with one field f, its own maker at fI -/
structure ErrT (K : PySem.W.Frag) (mg : Str → Option Value) (C fI : Addr) (x f : Str) : Prop where
  gC : mg x = some (.ref C)
  ox : OexC K C
  xf : XfC K C
  ec : ExcC K C
  icl : PySem.W.isClsIn K C = true
  noN : PySem.W.findIn K (.ref C) f = some none
  iC : PySem.W.findIn K (.ref C) "__init__" = some (some (.ref fI))
  tI : PySem.W.typeIn K (.ref fI) = some (.type "function")
/-- isinstance of the exception that the suite holds, of an own class, with a dict -/
def rIsX (K : PySem.W.Frag) (D a : Addr) (cls : Value) (d : Option Addr) : List V → Hp → VK → Prop := fun xs H Q => ∃ (c : V) (cv : Value) (b : Bool) (dd : Addr) (fs : List (Str × V)), xs = [.ref a, c] ∧ (∀ u, RelV c u → u = cv) ∧ PySem.W.kitOne K (.ref D) cv = some b ∧ cls = .ref D ∧ d = some dd ∧ H dd = some (.xd fs) ∧ Q (.bl b) H
theorem call_isX {X : Cx} {a D : Addr} {oe : Obj} {cls : Value} {d : Option Addr} {pn : List (Addr × Obj)} (C : ExcC X.K D) (hcl : (PySem.W.clsIn X.K D).isSome = true) (hz : Zc cls d oe) (hf : ∃ vs, oe.data = .fields vs) :
    CallR (X.suite a ((a, oe) :: pn)) (.builtin "isinstance") (rIsX X.K D a cls d) := by
  intro pins s σ H xs us Q I r h
  obtain ⟨c, cv, b, dd, fs, rfl, hcv, e, rfl, rfl, ea, q⟩ := h
  cases r with
  | cons rx rr =>
    cases rr with
    | cons rt rr =>
      cases rr
      cases rx
      have ec := hcv _ rt
      subst ec
      obtain ⟨ha, _⟩ := I.pin (a, oe) (List.mem_append_left _ List.mem_cons_self)
      obtain ⟨vs, hd⟩ := hf
      have hx : ObjOk X.prog X.w H s.heap dd (.xd fs) := I.hok dd _ ea
      obtain ⟨mA, hns, _⟩ := hx
      obtain ⟨od, ho, _⟩ := lookIn_ns hns
      have J : PySem.W.InstAt s.heap a oe D (some od) := ⟨ha, hz.1, by unfold PySem.W.notCls; rw [hd] <;> rfl, by rw [hz.2]; exact ho⟩
      exact PySem.W.kia_one (PySem.W.kitx_exc hcl C.hg C.hk C.hs C.ha C.hn C.ht C.hm) I.kIn J e (fun z => nomatch z) fun tk => ⟨.bl b, H, I.kept (t' := tk) fun _ _ z => z, rfl, q⟩
theorem exm_of {K : PySem.W.Frag} {S T : Addr} {b : Bool} (h1 : PySem.W.subIn K (.ref T) (.type "BaseException") = some true) (h2 : PySem.W.isClsIn K T = true) (h3 : PySem.W.typeIn K (.ref T) = some (.type "type")) (h4 : PySem.W.subIn K (.ref S) (.ref T) = some b) :
    PySem.W.exmOne K (.ref S) (.ref T) = some b := by
  have e1 : (PySem.W.subIn K (.ref T) (.type "BaseException") == some true) = true := by rw [h1] <;> rfl
  have e2 : ((PySem.W.clsIn K T).isSome && PySem.W.typeIn K (.ref T) == some (.type "type")) = true := by
    have h2' : (PySem.W.clsIn K T).isSome = true := h2
    rw [h2', h3] <;> rfl
  show (if (PySem.W.subIn K (.ref T) (.type "BaseException") == some true) = true then (if ((PySem.W.clsIn K T).isSome && PySem.W.typeIn K (.ref T) == some (.type "type")) = true then PySem.W.subIn K (.ref S) (.ref T) else none) else none) = some b
  rw [if_pos e1, if_pos e2]
  exact h4
theorem kit_refF {K : PySem.W.Frag} {S T : Addr} (h2 : PySem.W.isClsIn K T = true) (h3 : PySem.W.typeIn K (.ref T) = some (.type "type")) (h4 : PySem.W.subIn K (.ref S) (.ref T) = some false) (h5 : PySem.W.subIn K (.ref S) (.ref S) = some true) :
    PySem.W.kitOne K (.ref S) (.ref T) = some false := by
  have ne : (Value.ref S == Value.ref T) = false := by
    refine Bool.eq_false_iff.mpr fun q => ?_
    have e : S = T := Value.ref.inj (beq_iff_eq.mp q)
    rw [← e, h5] at h4
    cases h4
  have e2 : ((PySem.W.clsIn K T).isSome && PySem.W.typeIn K (.ref T) == some (.type "type")) = true := by
    have h2' : (PySem.W.clsIn K T).isSome = true := h2
    rw [h2', h3] <;> rfl
  show (if (Value.ref S == Value.ref T) = true then some true else if ((PySem.W.clsIn K T).isSome && PySem.W.typeIn K (.ref T) == some (.type "type")) = true then PySem.W.subIn K (.ref S) (.ref T) else none) = some false
  rw [ne, if_neg Bool.false_ne_true, if_pos e2]
  exact h4
/-- self.f = v, the maker's promise -/
def spErr (C : Addr) (f : Str) : Sp := fun vs H Q _ => ∃ (a : Addr) (v : V), vs = [.ref a, v] ∧ H a = some (exo a C none) ∧ ∀ d, H d = none → d ≠ a → Q .non (upd (upd H d (exd d [(f, v)])) a (exo a C (some d)))
def tRaiseQ (W : WX) (t : L2.St → Hp → XK → Prop) : TS := fun _ σ H => t σ H fun cls d H' => W cls d σ H'
theorem ps_raiseQ {X : Cx} {W : WX} {e : Expr} {t : L2.St → Hp → XK → Prop} {pos : Pos} (hc : X.calm = true) (tk : Takes X W) (he : PMk X e t) : PS X (.Raise (some e) none pos) (tRaiseQ W t) := ps_raise hc tk he
section
variable {X : Cx} {x n : Str} {c : Value} {i : Nat} {body suite : List Stmt} {b₀ : Stmt} {np pos pos' : Pos}
end
section
variable {σ : L2.St} {H : Hp} {K : PySem.W.Frag} {D : Ends} {Q : VK} {tb : WX → TS} {ts : Addr → Value → Option Addr → TS} {c : Value} {i : Nat} {W : WX} {ta : TA} {C a : Addr} {cls : Value} {d : Option Addr} {f : Str} {te : TE}
theorem rd_mkO {sp : Sp} {Q : XK} (q : ta σ H fun vs H1 => vs.length ≤ 1000 ∧ ∀ a, H1 a = none → sp (.ref a :: (vs ++ [])) (upd H1 a (exo a C none)) (fun v H2 => v = .non ∧ ∃ (d : Addr) (fs : List (Str × V)), H2 a = some (exo a C (some d)) ∧ H2 d = some (exd d fs) ∧ H1 d = none ∧ Q (.ref C) (some d) (upd (del H2 a) d (.xd fs))) (fun _ _ _ => False)) : tMkO C sp [] ta σ H Q := q
theorem rd_xfQ (q : te σ H fun x H1 => x = .ref a ∧ cls = .ref C ∧ ∃ (dd : Addr) (fs : List (Str × V)) (v : V), d = some dd ∧ H1 dd = some (.xd fs) ∧ fs.lookup f = some v ∧ Q v H1) : tXf a cls d C f te σ H Q := q
theorem rd_callS {sp : Sp} {E : L2.St → XK} (q : ta σ H fun vs H1 => sp vs H1 Q (E σ)) : tCallS sp E ta σ H Q := q
theorem rd_raise {t : L2.St → Hp → XK → Prop} (q : t σ H fun cls d H' => W cls d σ H') : tRaiseQ W t D σ H := q
theorem mkErr {Q : XK} {v : V} {H1 : Hp} (q : ∀ H' d, Same H1 H' → H' d = some (.xd [(f, v)]) → Q (.ref C) (some d) H') : [v].length ≤ 1000 ∧ ∀ a, H1 a = none → spErr C f (.ref a :: ([v] ++ [])) (upd H1 a (exo a C none))
  (fun v H2 => v = .non ∧ ∃ (d : Addr) (fs : List (Str × V)), H2 a = some (exo a C (some d)) ∧ H2 d = some (exd d fs) ∧ H1 d = none ∧ Q (.ref C) (some d) (upd (del H2 a) d (.xd fs))) (fun _ _ _ => False) := by
  refine ⟨by simp, fun a na => ⟨a, v, rfl, upd_same, fun d nd ne => ⟨rfl, d, [(f, v)], upd_same, ?_, ?_, ?_⟩⟩⟩
  · rw [upd_ne ne, upd_same]
  · rw [upd_ne ne] at nd
    exact nd
  · rw [upd_ne ne] at nd
    refine q _ d (fun b o e => ?_) upd_same
    have n1 : b ≠ a := ne_of_none e na
    have n2 : b ≠ d := ne_of_none e nd
    rw [upd_ne n2, del_ne n1, upd_ne n1, upd_ne n2, upd_ne n1]
    exact e
end
end Rv
/-! texts that may be wrong: what is read of them, line by line -/
namespace Rv
open PySem PySem.Spec PyProof.Rows L2
/-! rules of their own names, for texts that are bent -/
section
variable {σ : L2.St} {H : Hp} {K : PySem.W.Frag} {Q : VK} {te to : TE} {a b : List Nat} {p p2 : Addr} {xs ys : List V}
end
/-- words that are bounded: how many, how long in all, plain signs -/
structure Wb (n t : Nat) (ws : List (List Nat)) : Prop where
  n : ws.length ≤ n
  t : ws.flatten.length ≤ t
  c : ∀ w ∈ ws, ∀ c ∈ w, c < 128
theorem Wb.len {n t : Nat} {a : List (List Nat)} (h : Wb n t a) : ∀ w ∈ a, w.length ≤ t := fun w hw => by
  have : w.length ≤ a.flatten.length := by
    obtain ⟨i, hi, rfl⟩ := List.mem_iff_getElem.mp hw
    clear h hw
    induction a generalizing i with
    | nil => exact absurd hi (Nat.not_lt_zero _)
    | cons x r ih =>
      rw [List.flatten_cons, List.length_append]
      cases i with
      | zero => show x.length ≤ _; omega
      | succ i => have := ih i (by simpa using hi); simp only [List.getElem_cons_succ]; omega
  exact Nat.le_trans this h.t
end Rv
/-! boxes of draws of any make; pairs; calls with defaults, with a star; several named clauses -/
namespace Rv
open PySem PySem.Spec PyProof.Rows L2
/-- a box of draws: where it is, what of it changes, what it rests on -/
structure Box where
  b : Addr
  m : List Addr
  fp : List Addr
  I : Hp → Prop
  sub : ∀ a ∈ m, a ∈ fp
  live : ∀ H, I H → ∀ a ∈ fp, ∃ xs, H a = some (.lst xs)
  frame : ∀ H H', I H → (∀ a ∈ fp, H' a = H a) → I H'
structure Wg (B : Box) (H0 H : Hp) : Prop where
  keep : ∀ a o, a ∉ B.m → H0 a = some o → H a = some o
  i0 : B.I H0
  i1 : B.I H
section
variable {B : Box} {p a : Addr} {H0 H H1 H2 : Hp} {o : HO} {xs : List V}
theorem Box.ne (i : B.I H) (np : H p = none) : p ∉ B.fp := fun h => by
  obtain ⟨ys, e⟩ := B.live _ i p h
  rw [np] at e
  cases e
theorem Box.nem (i : B.I H) (np : H p = none) : p ∉ B.m := fun h => B.ne i np (B.sub _ h)
theorem Box.tupm (i : B.I H) (h : H p = some (.tup xs)) : p ∉ B.m := fun k => by
  obtain ⟨ys, e⟩ := B.live _ i p (B.sub _ k)
  rw [h] at e
  cases e
theorem Box.upd (i : B.I H) (n : p ∉ B.fp) : B.I (upd H p o) := B.frame _ _ i fun a ha => upd_ne fun e => n (e ▸ ha)
theorem Box.same (i : B.I H) (S : Same H H1) : B.I H1 := B.frame _ _ i fun a ha => by
  obtain ⟨ys, e⟩ := B.live _ i a ha
  rw [e]
  exact S _ _ e
theorem Wg.refl (i : B.I H) : Wg B H H := ⟨fun _ _ _ h => h, i, i⟩
theorem Wg.trans (w : Wg B H0 H1) (w2 : Wg B H1 H2) : Wg B H0 H2 := ⟨fun a o n h => w2.keep a o n (w.keep a o n h), w.i0, w2.i1⟩
theorem Wg.ofSame (i : B.I H) (S : Same H H1) : Wg B H H1 := ⟨fun a o _ h => S a o h, i, B.same i S⟩
theorem Wg.same (w : Wg B H0 H1) (S : Same H1 H2) : Wg B H0 H2 := w.trans (.ofSame w.i1 S)
theorem Wg.free (w : Wg B H0 H) (np : H p = none) : H0 p = none := by
  cases e : H0 p with
  | none => rfl
  | some o =>
    have n := B.nem w.i1 np
    rw [w.keep p o n e] at np
    cases np
theorem Wg.tup (w : Wg B H0 H) (h : H0 a = some (.tup xs)) : H a = some (.tup xs) := w.keep a _ (B.tupm w.i0 h) h
theorem Wg.lst (w : Wg B H0 H) (n : a ∉ B.m) (h : H0 a = some o) : H a = some o := w.keep a o n h
theorem Wg.mut (w : Wg B H0 H) (np : H0 p = none) : Wg B H0 (upd H p o) :=
  ⟨fun a u n h => by rw [upd_ne (ne_of_none h np)]; exact w.keep a u n h, w.i0, B.upd w.i1 (B.ne w.i0 np)⟩
theorem TupsAt.wg {ps : List Addr} {vss : List (List V)} (w : Wg B H H1) (h : TupsAt H ps vss) : TupsAt H1 ps vss := ⟨h.1, fun i vs e => by
  obtain ⟨p, e1, e2⟩ := h.2 i vs e
  exact ⟨p, e1, w.tup e2⟩⟩
end
/-- the tuples stay -/
def Kt (H H' : Hp) : Prop := ∀ a xs, H a = some (.tup xs) → H' a = some (.tup xs)
section
variable {B : Box} {p a : Addr} {H0 H H1 H2 : Hp} {o : HO} {xs : List V}
theorem Kt.mut (h : H p = some (.lst xs)) : Kt H (upd H p o) := fun a ys e => by
  rw [upd_ne (ne_of e h (by intro z; cases z))]
  exact e
theorem Kt.new (h : H p = none) : Kt H (upd H p o) := fun a ys e => by
  rw [upd_ne (ne_of_none e h)]
  exact e
theorem TupsAt.kt {ps : List Addr} {vss : List (List V)} (w : Kt H H1) (h : TupsAt H ps vss) : TupsAt H1 ps vss := ⟨h.1, fun i vs e => by
  obtain ⟨p, e1, e2⟩ := h.2 i vs e
  exact ⟨p, e1, w _ _ e2⟩⟩
end
/-- a comprehension within a def that draws; Pv rests on tuples alone -/
theorem lc_wg {B : Box} {J : It} {n : Nat} {G : Hp → Prop} {Y : Nat → Hp → V → Hp → Prop} (w : Walk J n G Y) {g : TG} {tt : TT} {te : TE} {vs : List Nat} {σ : L2.St} {H0 : Hp} {Q : VK} (i0 : B.I H0) (Pv : Nat → List V → Hp → Prop) (p0 : ∀ H, Kt H0 H → Pv 0 [] H)
    (st : ∀ i acc H H', Kt H H' → Pv i acc H → Pv i acc H')
    (sm : ∀ i acc H, Pv i acc H → acc.length < 1000) (hG : ∀ H, Wg B H0 H → G H)
    (hs : ∀ i x H H' acc (Qc : VK) (R : Hp → Prop), i < n → Wg B H0 H → Pv i acc H → Y i H x H' → (∀ y H4, Wg B H H4 → Pv (i + 1) (acc ++ [y]) H4 → Qc y H4) → (∀ H4, Wg B H H4 → Pv (i + 1) acc H4 → R H4) →
      g x (wipe σ vs) H' fun σ2 H2 => wipe σ2 vs = wipe σ vs ∧ tt σ2 H2 fun b H3 => if b = true then te σ2 H3 Qc else R H3)
    (hd : ∀ H D acc, Wg B H0 H → H0 D = none → H D = some (.lst acc) → Pv n acc H → Q (.ref D) H) : Lc J g tt te vs σ H0 Q := fun D nD => by
  have nm := B.nem i0 nD
  exact lc_it w (Qd := fun H => Q (.ref D) H) (fun i H => Wg B H0 H ∧ ∃ acc, H D = some (.lst acc) ∧ Pv i acc H) ⟨(Wg.refl i0).mut nD, [], upd_same, p0 _ (Kt.new nD)⟩ (fun i H _ p => hG H p.1)
    (fun i x H H' hi p y => by
      obtain ⟨w0, acc, hD, pa⟩ := p
      refine hs i x H H' acc _ _ hi w0 pa y (fun z H4 w4 pz => ?_) (fun H4 w4 pz => ⟨w0.trans w4, acc, w4.lst nm hD, pz⟩)
      have hD4 := w4.lst nm hD
      exact ⟨acc, hD4, small1000 (by have := sm i acc H pa; omega), (w0.trans w4).mut nD, _, upd_same, st _ _ _ _ (Kt.mut hD4) pz⟩)
    (fun H p => by
      obtain ⟨w0, acc, hD, pa⟩ := p
      exact hd H D acc w0 nD hD pa)
/-! pairs -/
def pv (p : Int × Int) : List V := [.int p.1, .int p.2]
structure PairOk (n : Nat) (p : Int × Int) : Prop where
  t0 : 0 ≤ p.1
  t1 : p.1 < n
  s0 : 0 ≤ p.2
  s1 : p.2 < n
  ne : p.1 ≠ p.2
def pvs (ps : List (Int × Int)) : List (List V) := ps.map pv
theorem pvs_len (ps : List (Int × Int)) : (pvs ps).length = ps.length := by simp [pvs]
/-! calls -/
/-- a def with one default, None -/
structure DefD (K : PySem.W.Frag) (mg : Str → Option Value) (x : Str) (st : Stmt) (ps : List Str) (f : Addr) (fd : FuncData) : Prop where
  F : FunD K x x (defArgs st) (defBody st) (defScope st) [.non] [] f fd
  b : Binds K fd ps []
  b1 : ∃ ds, Vals [V.non] ds ∧ Binds K fd ps ds
  g : mg x = some (.ref f)
/-- a def whose only parameter is starred -/
structure DefS (K : PySem.W.Frag) (mg : Str → Option Value) (x : Str) (st : Stmt) (f : Addr) (fd : FuncData) : Prop where
  F : Fun K x x st f fd
  g : mg x = some (.ref f)
section
variable {X : Cx} {k : Nat} {f : Addr} {sp : Sp} {x : Str} {p pos : Pos} {e : Expr} {es : List Expr} {t : TA} {CX : CXT} {E : XK}
end
end Rv
/-! several except clauses, each with a name of its own -/
namespace Rv
open PySem PySem.Spec PyProof.Rows L2
abbrev Suite := Addr → Value → Option Addr → TS
/-- what follows a suite whose name (slot i) is taken away again -/
def clr (i : Nat) (D : Ends) : Ends := ⟨fun σ H => D.nx (σ.set i none) H, D.rt, fun σ H => D.bk (σ.set i none) H, fun σ H => D.ct (σ.set i none) H⟩
/-- the clauses' wish, from the first on: class, slot, suite -/
def wCl (K : PySem.W.Frag) (D : Ends) : List (Value × Nat × Suite) → WX
  | [] => fun _ _ _ _ => False
  | (c, i, ts) :: r => fun q d σ H => ∃ b, PySem.W.exmOne K q c = some b ∧
      if b = true then ∀ a, H a = none → ts a q d (clr i D) (σ.set i (some (.ref a))) H else wCl K D r q d σ H
/-- the clauses of the text, each with its rule -/
inductive ClOk (X : Cx) : List ExceptHandler → List (Value × Nat × Suite) → Prop
  | nil {hs : List ExceptHandler} : ClOk X hs []
  | cons {x n : Str} {c : Value} {i : Nat} {ts : Suite} {b : Stmt} {bs : List Stmt} {np p : Pos} {hs : List ExceptHandler} {l : List (Value × Nat × Suite)} (hc : Names X x c) (hi : X.N[i]? = some n) (hn : X.env.kindOf n = some .local)
      (su : ∀ (a : Addr) (o : Obj) (q : Value) (d : Option Addr) (pn : List (Addr × Obj)), Zc q d o → (∃ vs, o.data = .fields vs) → PSs (X.suite a ((a, o) :: pn)) (b :: bs) (ts a q d)) (r : ClOk X hs l) :
      ClOk X (.ExceptHandler (some (.Name x np)) (some n) (b :: bs) p :: hs) ((c, i, ts) :: l)
section
variable {X : Cx} {pins : List (Addr × Obj)} {σ : L2.St} {H : Hp} {s s' : Shared} {a : Addr} {G h3 : Heap} {D : Ends} {q : Value} {d : Option Addr}
/-- what is known where an exception of the body has landed -/
structure Lands (X : Cx) (pins : List (Addr × Obj)) (σ : L2.St) (H : Hp) (s s' : Shared) (a : Addr) (G h3 : Heap) (q : Value) (d : Option Addr) : Prop where
  inv : Inv X pins σ H s
  nb : ∀ b o, s.heap.get? b = some o → b ∉ frs X.stack → G.get? b = some o
  up : s.heap.UpToSlots s'.heap
  os : s'.os = s.os
  ag : AllBare s'.gens
  na : H a = none
  fl : HandSPX.FlyingZ G (X.env :: X.outer) a (Zc q d) h3
  up3 : s'.heap.UpToSlots h3
theorem Lands.suite (L : Lands X pins σ H s s' a G h3 q d) (hf : X.env.frame = some X.env.locals) : ∃ o, h3.get? a = some o ∧ Zc q d o ∧ (∃ vs, o.data = .fields vs) ∧ Inv (X.suite a ((a, o) :: (X.pn ++ pins))) [] σ H { s' with heap := h3 } := by
  have J : Inv X pins σ H { s' with heap := h3 } := L.inv.landed L.nb L.fl.1 (L.up.trans L.up3) L.os L.ag
  obtain ⟨o, vs, ho, hz, hd⟩ := L.fl.there
  have far : a ∉ frs (X.env :: X.outer) := fun hm => by
    obtain ⟨_, o2, h2, nf⟩ := L.fl.2.2.1.mem hm
    rw [ho] at h2
    cases h2
    exact nf _ hd
  refine ⟨o, ho, hz, ⟨_, hd⟩, J.suite ho hd L.na (fun z => far ?_) fun hm => far ?_⟩
  · exact List.mem_filterMap.mpr ⟨X.env, List.mem_cons_self, by rw [hf, z]⟩
  · obtain ⟨e, he, z⟩ := List.mem_filterMap.mp hm
    exact List.mem_filterMap.mpr ⟨e, List.mem_cons_of_mem _ he, z⟩
theorem Lands.go (hN : X.N.Nodup) (hf : X.env.frame = some X.env.locals) : ∀ {hs : List ExceptHandler} {l : List (Value × Nat × Suite)} {h3 : Heap}, ClOk X hs l → Lands X pins σ H s s' a G h3 q d → wCl X.K D l q d σ H →
    wpAny (model X.prog X.w) X.A (handleBy (.ref a) X.env hs) (SP X pins D) X.xe { s' with heap := h3 } := by
  intro hs l h3 k
  induction k with
  | nil => exact fun _ w => w.elim
  | @cons x n c i ts b bs np p hs l hc hi hn su r ih =>
    intro L w
    obtain ⟨t, e1, w⟩ := w
    obtain ⟨o, ho, hz, hd, S⟩ := L.suite hf
    have cls : PySem.W.Looks (model X.prog X.w) h3 (typeOf (.ref a)) q := fun A Q E s k z => wpAny_typeOf_ref (k _ _ ho) (by rw [hz.1]; exact z)
    have ask := PySem.W.exm_one (M := model X.prog X.w) (show X.K.In h3 from S.kIn) cls e1
    have look : ∀ {Q E : Value → Shared → Prop}, Q c { s' with heap := h3 } → wpAny (model X.prog X.w) (X.A.mark (some (.ref a))) (eval (.Name x np) X.env) Q E { s' with heap := h3 } := fun z => by
      obtain ⟨hg, hb, hm | ⟨hm, hv, nn⟩⟩ := hc
      · exact ld_glob (X := X.suite a ((a, o) :: (X.pn ++ pins))) S hg hm z hb
      · exact ld_blt (X := X.suite a ((a, o) :: (X.pn ++ pins))) S hg hm hv z nn hb
    refine wpAny_handleBy_cons (codeAny_handlers_test (look (ask.here ?_))) (fun z => nomatch z)
    cases t with
    | false => exact ih L w
    | true =>
      refine codeAny_handlers_suite_as (HandSPX.lands_againZ L.fl fun h4 fl4 up4 => ?_)
      have L4 : Lands X pins σ H s s' a G h4 q d := { L with fl := fl4, up3 := L.up3.trans up4 }
      obtain ⟨o4, ho4, hz4, hd4, S4⟩ := L4.suite hf
      have w4 : ts a q d (clr i D) (σ.set i (some (.ref a))) H := w a L.na
      refine store_ok (X := X.suite a ((a, o4) :: (X.pn ++ pins))) (v := .ref a) S4 hN hi (.inl hn) rfl (fun s5 S5 => ?_) (.inr hn)
      refine wpAny_mono ((su a o4 q d (X.pn ++ pins) hz4 hd4).run [] s5 _ H _ S5 w4) (fun f s6 hp => ?_) (fun _ _ z => z.elim)
      have away : ∀ {σ6 : L2.St} {H6 : Hp} {R : Shared → Prop}, Inv (X.suite a ((a, o4) :: (X.pn ++ pins))) [] σ6 H6 s6 → (∀ s7, Inv X pins (σ6.set i none) H6 s7 → R s7) →
          wpAny (model X.prog X.w) X.A (do bindName X.env n .none; unbindBehindTheSuite X.env n p) (fun _ s7 => R s7) X.xe s6 := fun S6 z => gone_ok (S6.unsuite L.inv.ok) hN hi hn z
      cases f with
      | next => exact hp.elim fun _ hp => hp.elim fun _ hp => away hp.1 fun s7 J => ⟨_, _, J, hp.2⟩
      | brk => exact hp.elim fun _ hp => hp.elim fun _ hp => away hp.1 fun s7 J => ⟨_, _, J, hp.2⟩
      | cont => exact hp.elim fun _ hp => hp.elim fun _ hp => away hp.1 fun s7 J => ⟨_, _, J, hp.2⟩
      | ret u => exact hp.elim fun _ hp => hp.elim fun _ hp => hp.elim fun _ hp => away hp.1 fun s7 J => ⟨_, _, _, J, hp.2.1, hp.2.2⟩
end
def tTryM (K : PySem.W.Frag) (l : List (Value × Nat × Suite)) (tb : WX → TS) : TS := fun D σ H => tb (wCl K D l) D σ H
theorem ps_tryM {X : Cx} {body : List Stmt} {h₀ : ExceptHandler} {hs : List ExceptHandler} {pos : Pos} (l : List (Value × Nat × Suite)) (tb : WX → TS) (hst : X.stack = X.env :: X.outer) (hf : X.env.frame = some X.env.locals) (hN : X.N.Nodup)
    (hb : ∀ (W : WX) (pn : List (Addr × Obj)) (xe : Value → Shared → Prop), Takes (X.tr pn xe) W → PSs (X.tr pn xe) body (tb W)) (hh : ClOk X (h₀ :: hs) l) : PS X (.Try body (h₀ :: hs) [] [] pos) (tTryM X.K l tb) := by
  refine ⟨fun pins s σ H D I h => ?_⟩
  have ok := I.ok
  have fr : X.A.frames = some (X.env :: X.outer) := ok.frames.trans (congrArg some hst)
  refine wpAny_Try_except (wpAny_mono ((hb (wCl X.K D l) (X.pn ++ pins) _ (fun u s' xx => ?_)).run [] s σ H D (I.toTry _) h) (fun f s1 hp => ?_) fun _ _ z => z)
  · obtain ⟨a, G, sI, _, σ', H', q, d, rfl, J, nb, up, sky, na, os, ag, w⟩ := xx
    have sky2 : Sky G (X.env :: X.outer) a (Zc q d) X.env.locals s'.heap := hst ▸ sky
    exact Sky.land Zc.steady fr hf sky2 fun h3 fl up3 => Lands.go hN hf hh ⟨J.ofTry ok, nb, up, os, ag, na, fl, up3⟩ w
  · cases f with
    | next => exact hp.elim fun _ hp => hp.elim fun _ hp => wpAny_execs_nil ⟨_, _, hp.1.ofTry ok, hp.2⟩
    | brk => exact hp.elim fun _ hp => hp.elim fun _ hp => ⟨_, _, hp.1.ofTry ok, hp.2⟩
    | cont => exact hp.elim fun _ hp => hp.elim fun _ hp => ⟨_, _, hp.1.ofTry ok, hp.2⟩
    | ret u => exact hp.elim fun _ hp => hp.elim fun _ hp => hp.elim fun _ hp => ⟨_, _, _, hp.1.ofTry ok, hp.2.1, hp.2.2⟩
end Rv
/-! more steps of a reading; data at any depth; items that may be no lines; copy logs -/
namespace Rv
open PySem PySem.Spec PyProof.Rows L2
/-! methods of lists -/
def rInsQ : V → List V → Hp → VK → Prop := fun x vs H Q => ∃ (l : Addr) (xs : List V) (k : Nat) (y : V), x = .ref l ∧ vs = [.int (k : Int), y] ∧ H l = some (.lst xs) ∧ xs.length ≤ 1000 ∧ k ≤ 1000 ∧ Q .non (upd H l (.lst (xs.take k ++ [y] ++ xs.drop k)))
def rPopQ : V → List V → Hp → VK → Prop := fun x vs H Q => ∃ (l : Addr) (xs : List V) (k : Nat) (y : V), x = .ref l ∧ vs = [.int (k : Int)] ∧ H l = some (.lst xs) ∧ xs[k]? = some y ∧ k ≤ 1000 ∧ Q y (upd H l (.lst (xs.eraseIdx k)))
theorem mt_insQ {X : Cx} : MtR X "list.insert" rInsQ := fun pins s σ H x xs v us Q I rx rs h => by
  obtain ⟨l, ys, k, y, rfl, rfl, e, h1, h2, q⟩ := h
  exact mt_insert pins s σ H _ _ v us Q I rx rs ⟨l, ys, (k : Int), y, rfl, rfl, e, small1000 (by omega), by omega, by omega, q⟩
theorem mt_popQ {X : Cx} : MtM X "list.pop" rPopQ := fun pins s σ H x xs v us Q I rx rs h => by
  obtain ⟨l, ys, k, y, rfl, rfl, e, h1, h2, q⟩ := h
  have hk : k < ys.length := by
    by_cases z : k < ys.length
    · exact z
    · rw [List.getElem?_eq_none (by omega)] at h1
      cases h1
  refine mt_popAt pins s σ H _ _ v us Q I rx rs ⟨l, ys, (k : Int), k, y, rfl, rfl, e, by omega, by omega, ?_, h1, q⟩
  unfold seqIndex?
  have e1 : (if (k : Int) < 0 then (k : Int) + (ys.length : Int) else (k : Int)) = (k : Int) := if_neg (by omega)
  show (if (decide (0 ≤ (if (k : Int) < 0 then (k : Int) + (ys.length : Int) else (k : Int))) && decide ((if (k : Int) < 0 then (k : Int) + (ys.length : Int) else (k : Int)) < (ys.length : Int))) = true then _ else _) = _
  rw [e1, if_pos (by rw [Bool.and_eq_true]; exact ⟨decide_eq_true (by omega), decide_eq_true (by omega)⟩), Int.toNat_natCast]
section
variable {σ : L2.St} {H : Hp} {K : PySem.W.Frag} {Q : VK} {te : TE} {tr : TA} {p p2 l : Addr} {xs ys : List V} {R : It → Hp → Prop} {y : V} {k : Nat} {QB : Bool → Hp → Prop}
theorem rd_insQ (h : H l = some (.lst xs)) (hl : xs.length ≤ 1000) (hk : k ≤ 1000) (q : Q .non (upd H l (.lst (xs.take k ++ [y] ++ xs.drop k)))) : rInsQ (.ref l) [.int (k : Int), y] H Q := ⟨l, xs, k, y, rfl, rfl, h, hl, hk, q⟩
theorem rd_popQ (h : H l = some (.lst xs)) (e : xs[k]? = some y) (hk : k ≤ 1000) (q : Q y (upd H l (.lst (xs.eraseIdx k)))) : rPopQ (.ref l) [.int (k : Int)] H Q := ⟨l, xs, k, y, rfl, rfl, h, e, hk, q⟩
theorem rd_catL {xs ys : List V} (h : H p = some (.lst xs)) (h2 : H p2 = some (.lst ys)) (hl : xs.length + ys.length ≤ 1000) (q : ∀ l, H l = none → Q (.ref l) (upd H l (.lst (xs ++ ys)))) : rCat (.ref p) (.ref p2) H Q := ⟨p, p2, xs, ys, rfl, rfl, h, h2, Nat.le_of_lt (small1000 (by omega)), q⟩
theorem rd_isiN {T : String} {b : Bool} (e : kitB "NoneType" T = some b) (q : Q (.bl b) H) : rIsi K [.non, .ty T] H Q := ⟨_, _, _, _, b, rfl, .ty T, .base .non, kit_ty e, q⟩
theorem kit_nt : kitB "NoneType" "tuple" = some false := by decide +kernel
theorem kit_lt : kitB "list" "tuple" = some false := by decide +kernel
theorem rd_inLf {x : V} (h : H p = some (.lst xs)) (fx : flatV x = true) (fs : xs.all flatV = true) (q : Q (.bl (inV x xs)) H) : rIn K false x (.ref p) H Q := ⟨p, xs, rfl, .inl (SqL.of h), fx, fs, q⟩
theorem rd_ninLf {x : V} (h : H p = some (.lst xs)) (fx : flatV x = true) (fs : xs.all flatV = true) (q : Q (.bl (!inV x xs)) H) : rIn K true x (.ref p) H Q := ⟨p, xs, rfl, .inl (SqL.of h), fx, fs, q⟩
end
theorem inV_ints {k : Int} {ns : List Int} : inV (.int k) (ns.map V.int) = decide (k ∈ ns) := by
  unfold inV
  rw [List.any_map]
  have e : ((fun y => eqV y (.int k)) ∘ V.int) = fun n : Int => n == k := by
    funext n
    rfl
  rw [e, Bool.eq_iff_iff, List.any_eq_true, decide_eq_true_eq]
  exact ⟨fun ⟨x, h1, h2⟩ => by rw [← beq_iff_eq.mp h2]; exact h1, fun h => ⟨k, h, beq_self_eq_true _⟩⟩
/-! data at any depth -/
structure Sh (k : Nat) (d : PyData) : Prop where
  l : PyData.canLay0 d = true
  d : PyData.depth d ≤ k
theorem Sh.int {k : Nat} (i : Int) : Sh k (.int i) := ⟨rfl, Nat.zero_le _⟩
theorem Sh.non {k : Nat} : Sh k .none := ⟨rfl, Nat.zero_le _⟩
theorem Sh.bool {k : Nat} (b : Bool) : Sh k (.bool b) := ⟨rfl, Nat.zero_le _⟩
theorem Sh.str {k : Nat} {s : Str} (h : PyData.strOk s = true) : Sh k (.str s) := ⟨h, Nat.zero_le _⟩
theorem Sh.all {k : Nat} : ∀ {ds : List PyData}, (∀ d ∈ ds, Sh k d) → PyData.canLayAll0 ds = true ∧ PyData.depthAll ds ≤ k
  | [], _ => ⟨rfl, Nat.zero_le _⟩
  | d :: r, h => by
    obtain ⟨a1, a2⟩ := h d (List.mem_cons_self ..)
    obtain ⟨b1, b2⟩ := Sh.all fun e he => h e (List.mem_cons_of_mem _ he)
    constructor
    · show (PyData.canLay0 d && PyData.canLayAll0 r) = true
      rw [a1, b1]
      rfl
    · show max (PyData.depth d) (PyData.depthAll r) ≤ k
      omega
theorem Sh.tuple {k : Nat} {ds : List PyData} (h : ∀ d ∈ ds, Sh k d) : Sh (k + 1) (.tuple ds) := ⟨(Sh.all h).1, Nat.succ_le_succ (Sh.all h).2⟩
theorem Sh.list {k : Nat} {ds : List PyData} (h : ∀ d ∈ ds, Sh k d) : Sh (k + 1) (.list ds) := ⟨(Sh.all h).1, Nat.succ_le_succ (Sh.all h).2⟩
theorem Sh.shaped {d : PyData} {k : Nat} (h : Sh k d) (hk : k ≤ 64) : SeqAt.shaped d = true := by
  unfold SeqAt.shaped
  rw [Bool.and_eq_true]
  exact ⟨h.l, decide_eq_true (Nat.le_trans h.d hk)⟩
theorem strOk_txt {cs : List Nat} (h : ∀ c ∈ cs, c < 128) : PyData.strOk (txt cs) = true := by
  unfold PyData.strOk txt
  rw [Array.all_eq_true]
  intro i hi
  have hi2 : i < cs.length := by simpa using hi
  have := h _ (List.getElem_mem hi2)
  simp
  omega
theorem rd_ned {K : PySem.W.Frag} {H : Hp} {Q : VK} {x y : V} {d : PyData} {k : Nat} (h : Dp K H x d) (h2 : Dp K H y d) (s : Sh k d) (hk : k ≤ 64 := by decide) (q : Q (.bl false) H) : rNeD K x y H Q :=
  ⟨d, d, h, h2, s.shaped hk, s.shaped hk, by rw [SeqAt.eqv_refl _ s.l]; exact q⟩
/-! what may stand in a script -/
inductive Im where
  | tup (xs : List V)
  | lst (xs : List V)
  | non
def ImAt (M : List Addr) (H : Hp) (v : V) : Im → Prop
  | .tup xs => ∃ p, v = .ref p ∧ H p = some (.tup xs)
  | .lst xs => ∃ p, v = .ref p ∧ p ∉ M ∧ H p = some (.lst xs)
  | .non => v = .non
structure ImsAt (M : List Addr) (H : Hp) (vs : List V) (is : List Im) : Prop where
  len : vs.length = is.length
  at_ : ∀ (i : Nat) (it : Im), is[i]? = some it → ∃ v, vs[i]? = some v ∧ ImAt M H v it
/-- four fields: a word, two numbers, a text -/
def Wf : Im → Prop
  | .tup xs => xs.length = 4 → ∃ r : Ln, xs = r.vals ∧ r.g.length ≤ 1000
  | _ => True
def Good (n : Nat) (it : Im) : Prop := ∃ r : Ln, it = .tup r.vals ∧ LnOk n r
/-! scripts that are right, and those that are not -/
theorem kit_refT {K : PySem.W.Frag} {S T : Addr} (h2 : PySem.W.isClsIn K T = true) (h3 : PySem.W.typeIn K (.ref T) = some (.type "type")) (h4 : PySem.W.subIn K (.ref S) (.ref T) = some true) :
    PySem.W.kitOne K (.ref S) (.ref T) = some true := by
  have e2 : ((PySem.W.clsIn K T).isSome && PySem.W.typeIn K (.ref T) == some (.type "type")) = true := by
    have h2' : (PySem.W.clsIn K T).isSome = true := h2
    rw [h2', h3] <;> rfl
  show (if (Value.ref S == Value.ref T) = true then some true else if ((PySem.W.clsIn K T).isSome && PySem.W.typeIn K (.ref T) == some (.type "type")) = true then PySem.W.subIn K (.ref S) (.ref T) else none) = some true
  by_cases z : (Value.ref S == Value.ref T) = true
  · rw [if_pos z]
  · rw [if_neg z, if_pos e2]
    exact h4
end Rv
/-! what copy logs do -/
namespace Rv
open PySem PySem.Spec PyProof.Rows L2
def aft (p : Int × Int) (es : List Int) : List Int := es.set p.1.toNat (es.getD p.2.toNat 0)
def fin (es : List Int) (ps : List (Int × Int)) : List Int := ps.foldl (fun es p => aft p es) es
/-! idle lines -/
/-- a comprehension whose step makes nothing of what stood; Pv tells what is made so far -/
theorem lc_acc2 {J : It} {n : Nat} {G : Hp → Prop} {Y : Nat → Hp → V → Hp → Prop} (w : Walk J n G Y) {g : TG} {tt : TT} {te : TE} {vs : List Nat} {σ : L2.St} {H0 : Hp} {Q : VK} (Pv : Nat → List V → Hp → Prop) (p0 : Pv 0 [] H0)
    (st : ∀ i acc H H', Kt H H' → Pv i acc H → Pv i acc H') (sm : ∀ i acc H, i ≤ n → Pv i acc H → acc.length < 1000) (hG : ∀ H, Same H0 H → G H)
    (hs : ∀ i x H H' acc (Qc : VK) (R : Hp → Prop), i < n → Same H0 H → Pv i acc H → Y i H x H' → (∀ y H4, Same H H4 → Pv (i + 1) (acc ++ [y]) H4 → Qc y H4) → (∀ H4, Same H H4 → Pv (i + 1) acc H4 → R H4) →
      g x (wipe σ vs) H' fun σ2 H2 => wipe σ2 vs = wipe σ vs ∧ tt σ2 H2 fun b H3 => if b = true then te σ2 H3 Qc else R H3)
    (hd : ∀ H D acc, Same H0 H → H0 D = none → H D = some (.lst acc) → Pv n acc H → Q (.ref D) H) : Lc J g tt te vs σ H0 Q := fun D nD =>
  lc_it w (Qd := fun H => Q (.ref D) H) (fun i H => Same H0 H ∧ i ≤ n ∧ ∃ acc, H D = some (.lst acc) ∧ Pv i acc H) ⟨same_new (Same.refl _) nD, Nat.zero_le _, [], upd_same, st _ _ _ _ (Kt.new nD) p0⟩ (fun i H _ p => hG H p.1)
    (fun i x H H' hi p y => by
      obtain ⟨w0, hin, acc, hD, pa⟩ := p
      refine hs i x H H' acc _ _ hi w0 pa y (fun z H4 S4 pz => ?_) (fun H4 S4 pz => ⟨w0.trans S4, hi, acc, S4 _ _ hD, pz⟩)
      have hD4 := S4 _ _ hD
      exact ⟨acc, hD4, small1000 (by have := sm i acc H (by omega) pa; omega), same_mut (w0.trans S4) nD, hi, _, upd_same, st _ _ _ _ (Kt.mut hD4) pz⟩)
    (fun H p => by
      obtain ⟨w0, _, acc, hD, pa⟩ := p
      exact hd H D acc w0 nD hD pa)
theorem lc_acc {J : It} {n : Nat} {G : Hp → Prop} {Y : Nat → Hp → V → Hp → Prop} (w : Walk J n G Y) {g : TG} {tt : TT} {te : TE} {vs : List Nat} {σ : L2.St} {H0 : Hp} {Q : VK} (Pv : Nat → List V → Prop) (p0 : Pv 0 [])
    (sm : ∀ i acc, i ≤ n → Pv i acc → acc.length < 1000) (hG : ∀ H, Same H0 H → G H)
    (hs : ∀ i x H H' acc (Qc : VK) (R : Hp → Prop), i < n → Same H0 H → Pv i acc → Y i H x H' → (∀ y H4, Same H H4 → Pv (i + 1) (acc ++ [y]) → Qc y H4) → (∀ H4, Same H H4 → Pv (i + 1) acc → R H4) →
      g x (wipe σ vs) H' fun σ2 H2 => wipe σ2 vs = wipe σ vs ∧ tt σ2 H2 fun b H3 => if b = true then te σ2 H3 Qc else R H3)
    (hd : ∀ H D acc, Same H0 H → H0 D = none → H D = some (.lst acc) → Pv n acc → Q (.ref D) H) : Lc J g tt te vs σ H0 Q :=
  lc_acc2 w (fun i acc _ => Pv i acc) p0 (fun _ _ _ _ _ p => p) (fun i acc _ => sm i acc) hG hs hd
end Rv
/-! new objects by what holds of them; the box of the laws on copy logs; orders -/
namespace Rv
open PySem PySem.Spec PyProof.Rows L2
def New (o : HO) (n : Nat) (Q : VK) (H : Hp) : Prop := n ≤ sizeLine ∧ ∀ p, H p = none → Q (.ref p) (upd H p o)
def NewL (o : HO) (Q : VK) (H : Hp) : Prop := ∀ p, H p = none → Q (.ref p) (upd H p o)
section
variable {σ : L2.St} {H : Hp} {K : PySem.W.Frag} {Q : VK} {tr : TA} {a : Addr} {xs ys : List V} {o : HO} {n : Nat} {te : L2.St → Hp → (Int → Int → Hp → Prop) → Prop} {lo hi : Option Int}
theorem new_q {R : Hp → Prop} {p : Addr} {o : HO} (np : H p = none) (q : ∀ H2, Same H H2 → H2 p = some o → R H2) : R (upd H p o) := q _ (fun a u e => by rw [upd_ne (ne_of_none e np)]; exact e) upd_same
theorem rd_newL (q : ∀ H2 p, Same H H2 → H p = none → H2 p = some o → Q (.ref p) H2) : NewL o Q H := fun p np => new_q (R := fun H => Q (.ref p) H) np fun H2 S h => q H2 p S np h
theorem rd_newQ (hn : n ≤ 1000) (q : ∀ H2 p, Same H H2 → H p = none → H2 p = some o → Q (.ref p) H2) : New o n Q H := ⟨Nat.le_of_lt (small1000 hn), rd_newL q⟩
theorem rd_tupN (q : tr σ H fun xs H1 => New (.tup xs) xs.length Q H1) : tTup tr σ H Q := q
theorem rd_lstN (q : tr σ H fun xs H1 => New (.lst xs) xs.length Q H1) : tLst tr σ H Q := q
theorem rd_lstLN (h : H a = some (.lst xs)) (q : NewL (.lst xs) Q H) : rLstQ K [.ref a] H Q := ⟨a, xs, rfl, .inl (SqL.of h), q⟩
theorem rd_lstTN (h : H a = some (.tup xs)) (q : NewL (.lst xs) Q H) : rLstQ K [.ref a] H Q := ⟨a, xs, rfl, .inr (SqT.of h), q⟩
theorem rd_tupLN (h : H a = some (.lst xs)) (q : NewL (.tup xs) Q H) : rTupQ K [.ref a] H Q := ⟨a, xs, rfl, SqL.of h, q⟩
theorem rd_catLN {b : Addr} (h : H a = some (.lst xs)) (h2 : H b = some (.lst ys)) (hl : xs.length + ys.length ≤ 1000) (q : NewL (.lst (xs ++ ys)) Q H) : rCat (.ref a) (.ref b) H Q := rd_catL h h2 hl q
end
/-! dicts by whole numbers -/
/-! the box -/
/-! orders of the blocks -/
structure Ord (n : Nat) (os : List Int) : Prop where
  perm : os.Perm (own n)
theorem Ord.len {n : Nat} {os : List Int} (o : Ord n os) : os.length = n := o.perm.length_eq.trans (own_len n)
/-- a list of pairs that grows -/
structure Lg (H : Hp) (l : Addr) (n : Nat) (as : List Addr) (ps : List (Int × Int)) : Prop where
  at_ : H l = some (.lst (as.map V.ref))
  t : TupsAt H as (pvs ps)
  ok : ∀ p ∈ ps, PairOk n p
section
variable {H H' : Hp} {l D : Addr} {n : Nat} {as : List Addr} {ps : List (Int × Int)} {p : Int × Int}
theorem Lg.len (L : Lg H l n as ps) : as.length = ps.length := L.t.1.trans (pvs_len ps)
end
end Rv
/-! items of scripts that are made wrong: their data, their marks -/
namespace Rv
open PySem PySem.Spec PyProof.Rows L2
theorem SqT.sm {K : PySem.W.Frag} {H H' : Hp} {a : Addr} {xs : List V} (S : Same H H') (h : SqT K H a xs) : SqT K H' a xs := h.imp (fun z => z.imp (fun y => S _ _ y) fun ⟨o, y⟩ => ⟨o, S _ _ y⟩) id
mutual
theorem Dp.sm {K : PySem.W.Frag} {H H' : Hp} (S : Same H H') : ∀ {v : V} {d : PyData}, Dp K H v d → Dp K H' v d
  | _, _, .non => .non
  | _, _, .bl b => .bl b
  | _, _, .int i => .int i
  | _, _, .str x => .str x
  | _, _, .lst h k => .lst (Same.seq S h) (DpAll.sm S k)
  | _, _, .tup h k => .tup (SqT.sm S h) (DpAll.sm S k)
theorem DpAll.sm {K : PySem.W.Frag} {H H' : Hp} (S : Same H H') : ∀ {vs : List V} {ds : List PyData}, DpAll K H vs ds → DpAll K H' vs ds
  | _, _, .nil => .nil
  | _, _, .cons h k => .cons (Dp.sm S h) (DpAll.sm S k)
end
/-! fields of items -/
/-! marks: 0 a plain copy, 1 another line, 2 no line -/
/-! texts by multiplication, none among them -/
theorem rd_tryM {K : PySem.W.Frag} {l : List (Value × Nat × Suite)} {tb : WX → TS} {D : Ends} {σ : L2.St} {H : Hp} (q : tb (wCl K D l) D σ H) : tTryM K l tb D σ H := q
end Rv
/-! defs that raise nothing, called within an except suite -/
namespace Rv
open PySem PySem.Spec PyProof.Rows L2
/-- such a def's promise; p: the object of what is handled -/
structure FnQ (P : Program) (w : World) (K : PySem.W.Frag) (mg : Str → Option Value) (base : Heap) (k : Nat) (f : Addr) (fd : FuncData) (ps : List Str) (sp : Sp) : Prop where
  len : ∀ vs H Q E, sp vs H Q E → vs.length = ps.length
  go : ∀ (A : Around) (outer : List Env) (s : Shared) (H : Hp) (args : Args) (us : List Value) (vs : List V) (Q : VK) (E : XK) (p : Addr × Obj),
    L2H.RoomH k A → L2H.PinOk outer H s p → Env0 P w K mg base A outer s H → BindsTo s fd args (ps.zip us) → Vals vs us → sp vs H Q E → codeAny (model P w) A (.call (.ref f) args) (CR CX0 outer P w H s Q E) s
section
variable {P : Program} {w : World} {K : PySem.W.Frag} {mg : Str → Option Value} {base : Heap} {k : Nat} {f : Addr} {fd : FuncData} {N ps : List Str} {sp : Sp} {st : Stmt} {x qual : Str}
theorem fn_Q (F : Fun K x qual st f fd) (S : FnScope N ps (defScope st)) (len : ∀ vs H Q E, sp vs H Q E → vs.length = ps.length)
    (hb : ∀ (cdv : Value) (A : Around) (outer : List Env) (s : Shared) (H : Hp) (vs : List V) (Q : VK) (E : XK) (p : Addr × Obj), L2H.RoomH k (A.deeper (envOfC qual (defScope st) s.heap.objs.size f cdv)) → sp vs H Q E →
      ∃ t, PSs (L2H.cxH CX0 P w K mg base N qual (defScope st) f cdv A outer s H E p) (defBody st) t ∧ t ⟨fun _ H1 => Q .non H1, Q, fun _ _ => False, fun _ _ => False⟩ (L2.start N vs) H) : FnQ P w K mg base (k + 1) f fd ps sp := by
  obtain ⟨oc, od, kV, doc, pm, an, cdv, ct, osl, rfl, lk, hcd⟩ := F.ex
  constructor
  · exact len
  intro A outer s H args us vs Q E p hr pin e0 hbd rv hsp
  have hl := len _ _ _ _ hsp
  have base_in := e0.mod.kin.keeps fun b o e => (e0.bs b o e).1
  have base_lim := e0.mod.nolimit.keeps fun b o e => (e0.bs b o e).1
  have kinds : ∀ y ∈ ps.zip us, (defScope st).names.lookup y.1 = some .local ∨ ((defScope st).names.lookup y.1 = some .cell ∧ ((cellsFrom (s.heap.objs.size + 1) (defScope st).names []).lookup y.1).isSome = true) := by
    rintro ⟨n, v⟩ hy
    exact (S.par n (List.of_mem_zip hy).1).imp id fun q => ⟨q, PySem.W.cellsFrom_some _ _ _ (.inl q)⟩
  refine codeAny_call_function hr.depth (base_in _ _ lk) rfl S.co S.gen rfl (PySem.W.codeRec_of base_in hcd) (hbd _ _ _ _ (wpAny_newFunctionEnv_cells S.kind kinds fun env he s1 xc => ?_))
  subst he
  obtain ⟨t, ht, hq⟩ := hb cdv A outer s H vs Q E p (hr.deeper _) hsp
  refine ⟨base_lim.keeps xc.toInCall.keep, codeAny_func (wpAny_mono (ht.run [] s1 _ H _ (L2H.inv_startH S pin e0 hl rv xc) hq) (fun fl s2 hs => ?_) fun e s2 hs => hs)⟩
  cases fl with
  | ret u => exact hs.elim fun v hs => hs.elim fun σ1 hs => hs.elim fun H1 hs => ⟨v, H1, hs.1.os, hs.1.bare, hs.1.base, hs.1.hok, hs.2.1, hs.2.2⟩
  | next => exact hs.elim fun σ1 hs => hs.elim fun H1 hs => ⟨.non, H1, hs.1.os, hs.1.bare, hs.1.base, hs.1.hok, rfl, hs.2⟩
  | brk => exact hs.elim fun _ hs => hs.elim fun _ hs => hs.2.elim
  | cont => exact hs.elim fun _ hs => hs.elim fun _ hs => hs.2.elim
end
section
variable {X : Cx} {k : Nat} {f : Addr} {fd : FuncData} {ps : List Str} {sp : Sp} {x : Str} {q pos : Pos} {e : Expr} {es : List Expr} {t : TA}
end
end Rv
/-! sets of whole numbers, made of lists and tuples -/
namespace Rv
open PySem PySem.Spec PyProof.Rows L2
section
variable {P : Program} {w : World} {A : Around} {E : Value → Shared → Prop} {s : Shared}
abbrev noSet (w : World) : Obj := ⟨.type "set", none, .set #[] 0 (.fresh 0 0 (!w.params.followText "set-order")), #[]⟩
theorem set_list {l : Addr} {its : Array Value} {ns : List Int} {Q : Value → Shared → Prop} (calm : A.handled = none) (isl : s.heap.IsList l its) (vals : IntsAre its.toList ns) (small : ns.length + 1 < scanBound)
    (fin : ∀ (G : Heap) (tk c : Nat), SetR w G s.heap.objs.size (fun j => decide (j ∈ ns)) c → c ≤ ns.length → (∀ b o, s.heap.get? b = some o → G.get? b = some o) → Q (.ref s.heap.objs.size) { s with heap := G, toks := tk }) :
    wpAny (model P w) A (call (.type "set") [.ref l]) Q E s := by
  have many : its.size = ns.length := by rw [← Array.length_toList]; exact IntsAre.length vals
  obtain ⟨cc, tl, hmro⟩ := F.called_set.mro
  have m0 := F.called_set.made
  have m1 := F.called_set.sub
  have m2 := F.called_set.notType
  have m3 := F.called_set.canCreate
  have m4 := F.typeCall_set_1 (.ref l)
  refine wpAny_call (codeAny_of_tree ?_)
  show wpAny (model P w) _ (callAny (.type "set") ⟨[.ref l], []⟩) _ _ s
  refine wpAny_pure ⟨Code.quiet_builtin _ (by decide +kernel), codeAny_builtin F.entry_type_call ?_⟩
  rw [Around.under_plain (weight_type_call_type "set" [.ref l] []) rfl]
  repeat (any_goals (first | assumption | wp_step))
  refine codeAny_mono (code_set_led1 (.ref l) (E := E) (Q₁ := fun r s1 => r = .ref s.heap.objs.size ∧ s1 = { s with heap := s.heap.push (noSet w) }) ⟨rfl, rfl⟩) fun r s1 hr => ?_
  match r, hr with
  | .error e, hr => exact hr
  | .ok (.ret _), ⟨e1, e2⟩ =>
    subst e1 e2
    have new : (s.heap.push (noSet w)).get? s.heap.objs.size = some (noSet w) := Heap.get?_push_size _ rfl
    have newT : Shared.TypeIs { s with heap := s.heap.push (noSet w) } (.ref s.heap.objs.size) "set" := ⟨_, new, rfl⟩
    have i0 := F.called_set.init.lookup
    have i1 := F.called_set.init.bind (.ref s.heap.objs.size)
    repeat (any_goals (first | assumption | wp_step))
    refine codeAny_mono (codeAny_call_builtin (R := wants (fun r s2 => r = .none ∧ ∃ G tk c, s2 = { s with heap := G, toks := tk } ∧ SetR w G s.heap.objs.size (fun j => decide (j ∈ ns)) c ∧ c ≤ ns.length ∧ ∀ b o, s.heap.get? b = some o → G.get? b = some o) E)
      F.called_set.init.plain F.entry_set_init (check_set_init_1 newT ?_)) fun r2 s2 hr2 => ?_
    · obtain ⟨⟨lc, ld, lt, ls⟩, lget, lcls, nn, ldat⟩ := isl
      obtain rfl : lc = .type "list" := lcls
      obtain rfl : lt = .seq its nn := ldat
      have under : l < s.heap.objs.size := Heap.lt_size lget
      have lget1 : (s.heap.push (noSet w)).get? l = some ⟨.type "list", ld, .seq its nn, ls⟩ := Heap.get?_push_of_some _ lget
      have lat : (s.heap.push (noSet w)).IsList l its := ⟨_, lget1, rfl, nn, rfl⟩
      have k1 := F.sub_list_set
      have k2 := F.sub_list_frozenset
      have k3 : (Value.type "list" == Value.type "dict") = false := by decide
      unfold Builtin.«set.__init__» noKeywords Builtin.Frozenset.updateFrom
      generalize hpi : pyIter = it_
      wp_walk
      subst hpi
      have calm3 : A.in1.in1.in1.handled = none := calm
      have next : (s.heap.push (noSet w)).objs.size = s.heap.objs.size + 1 := Heap.size_push ..
      have apart : l ≠ (s.heap.push (noSet w)).objs.size := fun z => absurd under (by rw [z, next]; exact Nat.not_lt.mpr (Nat.le_succ _))
      have away : s.heap.objs.size ∉ [(s.heap.push (noSet w)).objs.size, l] := fun z => by
        rcases List.mem_cons.mp z with z | z
        · rw [next] at z
          exact absurd z (Nat.ne_of_lt (Nat.lt_succ_self _))
        · exact absurd (List.mem_singleton.mp z).symm (Nat.ne_of_lt under)
      refine wpAny_pyIter_list lat (wpAny_bind (wpAny_runValue (set_update_ints ((Walks.list calm3 _ l apart its).toS) s.heap.objs.size away ns many small (fun i v e => ?_) (its.size - 0) 0 _ (by omega) (Nat.zero_le _) ⟨⟨_, Heap.get?_push_size _ rfl, rfl, rfl⟩, lat.push _⟩ ?_ fun s3 c moved cle sr => ?_)))
      · have hi : i < ns.length := by rw [← many]; exact (Array.getElem?_eq_some_iff.mp e).1
        obtain ⟨t, et⟩ := PyProof.Rows.IntsAre.int_at vals i v (by rw [Array.getElem?_toList]; exact e)
        refine ⟨ns[i], t, List.getElem?_eq_getElem hi, et.trans ?_⟩
        rw [List.getD_eq_getElem?_getD, List.getElem?_eq_getElem hi]
        rfl
      · exact ⟨0, Nat.le_refl 0, setR_new_at (Heap.get?_push_of_some _ new)⟩
      · obtain ⟨G, g3, d3, tk3, os3⟩ := s3
        obtain rfl : g3 = s.gens := moved.gens
        obtain rfl : d3 = s.drawn := moved.drawn
        obtain rfl : os3 = s.os := moved.os
        refine wpAny_pure (wpAny_pure ⟨rfl, G, tk3, c, rfl, sr, by rw [← many]; exact cle, fun b o e => moved.heap b o (fun z => ?_) (Heap.get?_push_of_some _ (Heap.get?_push_of_some _ e))⟩)
        have lo := Heap.lt_size e
        rcases List.mem_cons.mp z with z | z
        · exact absurd z (Nat.ne_of_lt lo)
        · have z2 := List.mem_singleton.mp z
          rw [next] at z2
          exact absurd z2 (Nat.ne_of_lt (Nat.lt_succ_of_lt lo))
    · match r2, hr2 with
      | .error e, hr2 => exact hr2
      | .ok (.ret _), ⟨z1, G, tk, c, z2, sr, cle, kp⟩ =>
        subst z1 z2
        repeat (any_goals (first | assumption | wp_step))
        exact fin _ _ _ sr cle kp
      | .ok .next, hr2 => exact hr2.elim
      | .ok .brk, hr2 => exact hr2.elim
      | .ok .cont, hr2 => exact hr2.elim
  | .ok .next, hr => exact hr.elim
  | .ok .brk, hr => exact hr.elim
  | .ok .cont, hr => exact hr.elim
end
section
variable {X : Cx}
/-- set(xs), xs a list or a tuple of whole numbers -/
def rSetI (K : PySem.W.Frag) (w : World) : List V → Hp → VK → Prop := fun xs H Q => ∃ (p : Addr) (ns : List Int), xs = [.ref p] ∧ (SqL K H p (ns.map V.int) ∨ SqT K H p (ns.map V.int)) ∧ ns.length < 64 ∧
  ∀ (a : Addr) (c : Nat), H a = none → c ≤ ns.length → Q (.ref a) (upd H a (SetO w a (fun j => decide (j ∈ ns)) c))
theorem cr_setI (hc : X.calm = true) : CallR X (.type "set") (rSetI X.K X.w) := by
  intro pins s σ H xs us Q I r h
  obtain ⟨p, ns, rfl, hs, h64, q⟩ := h
  have sb : ns.length + 1 < scanBound := by unfold scanBound; omega
  rw [Vals.ref1 r]
  rcases hs with hs | hs
  · obtain ⟨its, rv, ⟨o, n, ho, hcl, _, hd⟩, _⟩ := I.list hs
    exact set_list (its := its.toArray) (I.ok.hd hc) ⟨o, ho, hcl, n, hd⟩ (ints_of_vals rv) sb fun G tk c R hcn k => ⟨.ref _, upd H s.heap.objs.size (SetO X.w s.heap.objs.size (fun j => decide (j ∈ ns)) c), I.laid (t' := tk) k (Nat.le_refl _) (setO_new R), rfl, q _ c (I.hok.fresh (Nat.le_refl _)) hcn⟩
  · obtain ⟨its, rv, ht, _⟩ := I.tuple hs
    exact call_set_tupI ns (I.ok.hd hc) (show s.heap.IsTuple p its.toArray from ht) (ints_of_vals rv) sb fun G tk c R hcn k => ⟨.ref _, upd H s.heap.objs.size (SetO X.w s.heap.objs.size (fun j => decide (j ∈ ns)) c), I.laid (t' := tk) k (Nat.le_refl _) (setO_new R), rfl, q _ c (I.hok.fresh (Nat.le_refl _)) hcn⟩
end
section
variable {K : PySem.W.Frag} {w : World} {H : Hp} {Q : VK} {p a : Addr} {ns : List Int} {c : Nat}
theorem rd_setI (h : H p = some (.lst (ns.map V.int)) ∨ H p = some (.tup (ns.map V.int))) (l : ns.length < 64) (q : ∀ H2 a c, Same H H2 → H a = none → c ≤ ns.length → H2 a = some (SetO w a (fun j => decide (j ∈ ns)) c) → Q (.ref a) H2) : rSetI K w [.ref p] H Q :=
  ⟨p, ns, rfl, h.imp SqL.of SqT.of, l, fun a c na hc => q _ a c (fun b u e => by rw [upd_ne (ne_of_none e na)]; exact e) na hc upd_same⟩
end
end Rv
/-! which blocks matter -/
namespace Rv
open PySem PySem.Spec PyProof.Rows L2
theorem dp_ints2 {K : PySem.W.Frag} {H : Hp} {D : Addr} {es : List Int} (h : H D = some (.lst (es.map V.int))) : Dp K H (.ref D) (.list (es.map PyData.int)) := .lst (SqL.of h) (dp_ints es)
theorem sh_ints2 (es : List Int) : Sh 1 (.list (es.map PyData.int)) := Sh.list fun d hd => by
  obtain ⟨i, _, rfl⟩ := List.mem_map.mp hd
  exact Sh.int i
end Rv
/-! searches; what restarts from the top do -/
namespace Rv
open PySem PySem.Spec PyProof.Rows L2
section
variable {P : Type}
inductive Rch (nx : P → List P) (s : P) : P → Prop
  | refl : Rch nx s s
  | step {p q : P} (h : Rch nx s p) (m : q ∈ nx p) : Rch nx s q
/-- a search between two turns: what waits, what was met, how many were taken up -/
structure Sr (nx : P → List P) (s : P) (td seen : List P) (i : Nat) : Prop where
  nd : seen.Nodup
  st : s ∈ seen
  rc : ∀ p ∈ seen, Rch nx s p
  tds : ∀ p ∈ td, p ∈ seen
  cl : ∀ p ∈ seen, p ∈ td ∨ ∀ q ∈ nx p, q ∈ seen
  cnt : i + td.length = seen.length
/-- p was taken up, the first j of what follows were looked at -/
structure Pr (nx : P → List P) (s p : P) (td seen : List P) (i j : Nat) : Prop where
  nd : seen.Nodup
  st : s ∈ seen
  pin : p ∈ seen
  rc : ∀ p ∈ seen, Rch nx s p
  tds : ∀ p ∈ td, p ∈ seen
  cl : ∀ q ∈ seen, q ∈ td ∨ q = p ∨ ∀ r ∈ nx q, r ∈ seen
  done : ∀ (k : Nat) q, k < j → (nx p)[k]? = some q → q ∈ seen
  cnt : i + 1 + td.length = seen.length
variable {nx : P → List P} {s p q : P} {td seen : List P} {i j : Nat}
theorem Sr.all (S : Sr nx s [] seen i) (q : P) : q ∈ seen ↔ Rch nx s q := ⟨S.rc q, fun r => by
  induction r with
  | refl => exact S.st
  | step h m ih =>
    rcases S.cl _ ih with k | k
    · exact absurd k List.not_mem_nil
    · exact k _ m⟩
end
/-! from the top -/
section
variable {n : Nat} {ps : List (Int × Int)}
/-! by images -/
end
end Rv
/-! searches in the heap: what waits, tables of what was met -/
namespace Rv
open PySem PySem.Spec PyProof.Rows L2
def rIntB : List V → Hp → VK → Prop := fun xs H Q => ∃ b : Bool, xs = [.bl b] ∧ Q (.int (if b then 1 else 0)) H
theorem call_intB {X : Cx} : CallR X (.type "int") rIntB := fun pins s σ H xs us Q I r h => call_int1 pins s σ H xs us Q I r (.inr h)
section
variable {σ : L2.St} {H : Hp} {K : PySem.W.Frag} {Q : VK} {p : Addr} {xs : List V} {y : V} {D : Ends}
theorem rd_intB {b : Bool} (q : Q (.int (if b then 1 else 0)) H) : rIntB [.bl b] H Q := ⟨b, rfl, q⟩
end
section
variable {H H' : Hp} {d b : Addr} {ls : List (List Int)} {es : List Int} {Q : VK} {R : Hp → Prop} {v : V}
end
/-! a table of places -/
def rowG (n k : Nat) (seen : List (Nat × Nat)) : List V := (List.range n).map fun b => V.bl (decide ((k, b) ∈ seen))
structure Grid (H : Hp) (g : Addr) (m n : Nat) (rws : List Addr) (seen : List (Nat × Nat)) : Prop where
  at_ : H g = some (.lst (rws.map V.ref))
  len : rws.length = m
  nd : rws.Nodup
  ng : g ∉ rws
  row : ∀ (k : Nat) r, rws[k]? = some r → H r = some (.lst (rowG n k seen))
section
variable {H H' : Hp} {g l : Addr} {m n k b : Nat} {rws : List Addr} {seen : List (Nat × Nat)}
end
/-- a comprehension that makes lists: none of them is its own -/
theorem lc_acc3 {J : It} {n : Nat} {G : Hp → Prop} {Y : Nat → Hp → V → Hp → Prop} (w : Walk J n G Y) {g : TG} {tt : TT} {te : TE} {vs : List Nat} {σ : L2.St} {H0 : Hp} {Q : VK} (Pv : Addr → Nat → List V → Hp → Prop) (p0 : ∀ D H, Pv D 0 [] H)
    (st : ∀ D i acc H H', (∀ a, a ≠ D → H' a = H a) → Pv D i acc H → Pv D i acc H') (sm : ∀ D i acc H, i ≤ n → Pv D i acc H → acc.length < 1000) (hG : ∀ H, Same H0 H → G H)
    (hs : ∀ D i x H H' acc (Qc : VK) (R : Hp → Prop), i < n → Same H0 H → H D = some (.lst acc) → Pv D i acc H → Y i H x H' → (∀ y H4, Same H H4 → Pv D (i + 1) (acc ++ [y]) H4 → Qc y H4) → (∀ H4, Same H H4 → Pv D (i + 1) acc H4 → R H4) →
      g x (wipe σ vs) H' fun σ2 H2 => wipe σ2 vs = wipe σ vs ∧ tt σ2 H2 fun b H3 => if b = true then te σ2 H3 Qc else R H3)
    (hd : ∀ H D acc, Same H0 H → H0 D = none → H D = some (.lst acc) → Pv D n acc H → Q (.ref D) H) : Lc J g tt te vs σ H0 Q := fun D nD =>
  lc_it w (Qd := fun H => Q (.ref D) H) (fun i H => Same H0 H ∧ i ≤ n ∧ ∃ acc, H D = some (.lst acc) ∧ Pv D i acc H) ⟨same_new (Same.refl _) nD, Nat.zero_le _, [], upd_same, p0 _ _⟩ (fun i H _ p => hG H p.1)
    (fun i x H H' hi p y => by
      obtain ⟨w0, hin, acc, hD, pa⟩ := p
      refine hs D i x H H' acc _ _ hi w0 hD pa y (fun z H4 S4 pz => ?_) (fun H4 S4 pz => ⟨w0.trans S4, hi, acc, S4 _ _ hD, pz⟩)
      have hD4 := S4 _ _ hD
      exact ⟨acc, hD4, small1000 (by have := sm D i acc H (by omega) pa; omega), same_mut (w0.trans S4) nD, hi, _, upd_same, st _ _ _ _ _ (fun a ne => upd_ne ne) pz⟩)
    (fun H p => by
      obtain ⟨w0, _, acc, hD, pa⟩ := p
      exact hd H D acc w0 nD hD pa)
/-! the least place that spoils -/
/-! how many come to a block -/
theorem eqv_intsL : ∀ (a b : List Int), PyData.eqv (.list (a.map PyData.int)) (.list (b.map PyData.int)) = decide (a = b)
  | [], [] => rfl
  | [], _ :: _ => rfl
  | _ :: _, [] => rfl
  | x :: r, y :: t => by
    have ih := eqv_intsL r t
    have e : PyData.eqv (.list ((x :: r).map PyData.int)) (.list ((y :: t).map PyData.int)) = (decide (x = y) && PyData.eqv (.list (r.map PyData.int)) (.list (t.map PyData.int))) := rfl
    rw [e, ih, Bool.eq_iff_iff, Bool.and_eq_true, decide_eq_true_eq, decide_eq_true_eq, decide_eq_true_eq, List.cons.injEq]
theorem rd_eqL {K : PySem.W.Frag} {H : Hp} {Q : VK} {p p2 : Addr} {xs ys : List Int} (h : H p = some (.lst (xs.map V.int))) (h2 : H p2 = some (.lst (ys.map V.int))) (q : Q (.bl (decide (xs = ys))) H) : rEqD K (.ref p) (.ref p2) H Q :=
  ⟨_, _, dp_ints2 h, dp_ints2 h2, (sh_ints2 _).shaped (by decide), (sh_ints2 _).shaped (by decide), by rw [eqv_intsL]; exact q⟩
end Rv
/-! late lines -/
namespace Rv
open PySem PySem.Spec PyProof.Rows L2
/-- the last of the first k lines that writes on b, or -1 -/
def lw (ps : List (Int × Int)) (b : Int) : Nat → Int
  | 0 => -1
  | k + 1 => match ps[k]? with
    | some p => if p.1 = b then (k : Int) else lw ps b k
    | none => lw ps b k
section
variable {n : Nat} {ps : List (Int × Int)}
/-! the same by images -/
end
end Rv
namespace Rv
open PySem PySem.Spec PyProof.Rows L2
/-! how many come to a block -/
section
variable {n k b : Nat} {ps : List (Int × Int)}
end
end Rv
/-! dicts whose keys are pairs of a number and a row of numbers -/
namespace Rv
open PySem PySem.Spec PyProof.Rows L2
section
variable {X : Cx} {pins : List (Addr × Obj)} {σ : L2.St} {H : Hp} {s : Shared} {a b : Addr} {xs : List NE} {k : NK} {A : Around} {E : Value → Shared → Prop} {Pg : Program} {wd : World}
/-! readings -/
end
section
variable {X : Cx} {o i e value : Expr} {pos pos' tpos : Pos} {td ty tv : TE} {P : Program} {w : World}
end
section
variable {σ : L2.St} {H H' : Hp} {Q : VK} {D : Ends} {P : Program} {w : World} {td ty tv : TE} {d b l : Addr} {ks : List NK} {k : NK} {v : V} {R : Hp → Prop} {o : HO}
end
end Rv
/-! a dict comprehension stored on its line; searches over places with images -/
namespace Rv
open PySem PySem.Spec PyProof.Rows L2
section
variable {X : Cx}
end
section
variable {H : Hp} {Q : VK} {p : Addr} {xs : List V} {y : V}
theorem rd_appB (h : H p = some (.lst xs)) (hz : xs.length < 100000) (q : Q .non (upd H p (.lst (xs ++ [y])))) : rAppend (.ref p) [y] H Q := ⟨p, xs, y, rfl, rfl, h, by rw [sizeLine_eq]; omega, q⟩
end
/-! places with images -/
section
variable {H H' : Hp} {as : List Addr} {ps : List (Nat × List Int)} {a : Addr} {p : Nat × List Int}
end
end Rv
namespace Rv
open PySem PySem.Spec PyProof.Rows L2
/-- the dict of the last writes -/
structure Lw (ps : List (Int × Int)) (i : Nat) (kvs : List (Key × V)) : Prop where
  len : kvs.length ≤ i
  val : ∀ b : Int, valV kvs (Sum.inl b) = if lw ps b i < 0 then none else some (.int (lw ps b i))
end Rv
/-! from an old mark -/
namespace Rv
open PySem PySem.Spec PyProof.Rows L2
/-- block b matters at position k -/
def Mt (n : Nat) (ps : List (Int × Int)) (k : Nat) (b : Int) : Prop := b ∈ fin (own n) (ps.drop k)
section
variable {n : Nat} {ps : List (Int × Int)}
/-! the same by images -/
end
/-- what mattered so far: each block with the least position -/
structure Mm (n : Nat) (ps : List (Int × Int)) (j : Nat) (kvs : List (Key × V)) : Prop where
  len : kvs.length ≤ j * 12
  some_ : ∀ (b : Int) v, valV kvs (Sum.inl b) = some v → ∃ k : Nat, v = .int k ∧ k < j ∧ Mt n ps k b ∧ ∀ k', k' < k → ¬ Mt n ps k' b
  none_ : ∀ b : Int, valV kvs (Sum.inl b) = none → ∀ k, k < j → ¬ Mt n ps k b
/-- the same while the blocks os that matter at i are gone through -/
structure Mi (n : Nat) (ps : List (Int × Int)) (i : Nat) (os : List Int) (j : Nat) (kvs : List (Key × V)) : Prop where
  len : kvs.length ≤ i * 12 + j
  some_ : ∀ (b : Int) v, valV kvs (Sum.inl b) = some v → (∃ k : Nat, v = .int k ∧ k < i ∧ Mt n ps k b ∧ ∀ k', k' < k → ¬ Mt n ps k' b) ∨ (v = .int i ∧ b ∈ os ∧ ∀ k, k < i → ¬ Mt n ps k b)
  none_ : ∀ b : Int, valV kvs (Sum.inl b) = none → (∀ k, k < i → ¬ Mt n ps k b) ∧ b ∉ os.take j
section
variable {n i j : Nat} {ps : List (Int × Int)} {os : List Int} {kvs : List (Key × V)}
end
/-- the tables of what matters, from position j on -/
structure Tb (H : Hp) (n : Nat) (ps : List (Int × Int)) (j : Nat) (ts : List Addr) : Prop where
  len : ts.length + j = ps.length + 1
  at_ : ∀ i, i + j ≤ ps.length → ∃ (a : Addr) (os : List Int), ts[i]? = some a ∧ H a = some (.lst (os.map V.int)) ∧ os.length + (j + i) ≤ 12 + ps.length ∧ ∀ x, x ∈ os ↔ Mt n ps (j + i) x
end Rv
/-! set comprehensions whose elements are whole numbers -/
namespace Rv
open PySem PySem.Spec PyProof.Rows L2 PpSet
section
variable {X : Cx}
variable {elt tg iter : Expr} {ifs : List Expr} {scope : Scope} {own : List (PySem.Str × Nat)} {pos : Pos} {wi : TI} {g : TG} {tt : TT} {te : TE} {w : World}
end
end Rv
/-! another box of draws; images that may be wrong; replacing -/
namespace Rv
open PySem PySem.Spec PyProof.Rows L2
/-! tuples put together -/
section
variable {H : Hp} {K : PySem.W.Frag} {Q : VK} {a b : Addr} {xs ys : List V} {lo hi : Option Int}
theorem rd_repT {k : Int} (h : H a = some (.tup xs)) (nx : xs ≠ []) (k2 : 2 ≤ k) (k3 : k ≤ 1000) (l : xs.length ≤ 1000) (q : NewL (.tup (List.replicate k.toNat xs).flatten) Q H) : rRepT K (.ref a) (.int k) H Q := ⟨a, k, xs, rfl, rfl, SqT.of h, nx, k2, k3, l, q⟩
theorem rd_sorted {ns : List Int} (h : H a = some (.lst (ns.map V.int))) (l : ns.length < 64) (q : ∀ (H2 : Hp) (p : Addr) (os : List Int), Same H H2 → H p = none → H2 p = some (.lst (os.map V.int)) → os.Perm ns → os.Pairwise (· ≤ ·) → Q (.ref p) H2) : rSorted K [.ref a] H Q :=
  ⟨a, ns, rfl, SqL.of h, l, fun os p pm pw np => q _ p os (fun c u e => by rw [upd_ne (ne_of_none e np)]; exact e) np upd_same pm pw⟩
end
/-! images that may be wrong -/
/-! anchors -/
def KeptB (es fs : List Int) (b : Nat) (x : Int) : Prop := es.getD b 0 = x ∧ fs.getD b 0 = x
instance (es fs : List Int) (b : Nat) (x : Int) : Decidable (KeptB es fs b x) := inferInstanceAs (Decidable (_ ∧ _))
/-- the least of the first blocks that is kept and holds x -/
def fk (es fs : List Int) (x : Int) : Nat → Int
  | 0 => -1
  | k + 1 => if 0 ≤ fk es fs x k then fk es fs x k else if KeptB es fs k x then (k : Int) else -1
section
variable {es fs : List Int} {x : Int}
/-- the dict of the kept ones -/
structure Kp (es fs : List Int) (i : Nat) (kvs : List (Key × V)) : Prop where
  len : kvs.length ≤ i
  val : ∀ x : Int, valV kvs (Sum.inl x) = if x < 0 ∨ fk es fs x i < 0 then none else some (.int (fk es fs x i))
end
/-! the lines -/
def chg (es fs : List Int) (n : Nat) : List Nat := (List.range n).filter fun b => !decide (es.getD b 0 = fs.getD b 0)
/-- the first m of the blocks that change have changed -/
structure Half (es fs hs : List Int) (m : Nat) : Prop where
  len : hs.length = fs.length
  at_ : ∀ b, b < fs.length → hs.getD b 0 = if b ∈ (chg es fs fs.length).take m then fs.getD b 0 else es.getD b 0
section
variable {es fs hs : List Int} {m : Nat}
end
end Rv
namespace Rv
open PySem PySem.Spec PyProof.Rows L2
section
variable {σ : L2.St} {H : Hp} {K : PySem.W.Frag} {p : Addr} {xs : List V} {QB : Bool → Hp → Prop} {Q : VK}
end
end Rv
namespace Rv
open PySem PySem.Spec PyProof.Rows L2
/-- // by a positive divisor of some length -/
def CDivV (_ j : Int) : Prop := 0 < j ∧ j ≤ 10 ^ 30
theorem op_fdivV {X : Cx} : OpR X (binaryOp .FloorDiv) (rI CDivV fun i j => .int (i.fdiv j)) := opI fun _ j _ _ _ _ _ hc q => by
  obtain ⟨h0, h1⟩ := hc
  refine floordiv_int (by omega) q (.inl (PyProof.noPylong_of_log2 ?_))
  have z : j.natAbs < 2 ^ 100 := by omega
  have y := (Nat.log2_lt (n := j.natAbs) (k := 100) (by omega)).mpr z
  omega
end Rv
/-! list(zip(a, b)) of two tuples: the pairs stand in the list, so each turn makes a new one -/
namespace Rv
open PySem PySem.Spec PyProof.Rows L2 RZ
section
variable {prog : Program} {w : World} {A : Around} {E : Value → Shared → Prop} {s : Shared}
end
section
variable {X : Cx} {pins : List (Addr × Obj)} {σ : L2.St} {A1 : Around} {a b q z TI TO i1 i2 : Addr} {xs ys : List V} {H0 : Hp} {Rs : Result → Shared → Prop}
end
section
variable {X : Cx}
end
end Rv
/-! t.count(k), min(t) of a tuple of whole numbers; xs.remove(k) that finds k; a tuple that is spread into a tuple or a call -/
namespace Rv
open PySem PySem.Spec PyProof.Rows L2
section
variable {X : Cx}
def rCntT (K : PySem.W.Frag) : V → List V → Hp → VK → Prop := fun x xs H Q => ∃ (p : Addr) (ns : List Int) (k : Int), x = .ref p ∧ xs = [.int k] ∧ SqT K H p (ns.map V.int) ∧ Q (.int (ns.count k : Nat)) H
theorem cnt_eq (ns : List Int) (k : Int) : ns.countP (fun y => decide (y = k)) = ns.count k := by
  unfold List.count
  congr 1
theorem mt_tcount (hu : X.A.units + 64 < cLine) : MtR X "tuple.count" (rCntT X.K) := by
  intro pins s σ H x xs v us Q I rx rxs h
  obtain ⟨p, ns, k, rfl, rfl, hs, q⟩ := h
  cases rx
  obtain ⟨u, rfl, ru⟩ := rxs.one
  obtain ⟨t, rfl⟩ := ru
  obtain ⟨its, rv, tp, _⟩ := I.tuple hs
  have hi := ints_of_vals rv
  refine PySem.W.count_tuple_datum (show s.heap.IsTuple p its.toArray from tp) (xs := ns) (x := k) (by rw [List.toList_toArray]; exact PySem.W.HoldAll.of_ints hi) (PySem.W.holds_int k t) (by show X.A.units + 1 + 0 < cLine; omega) ?_
  rw [cnt_eq]
  exact ⟨.int (ns.count k : Nat), H, I.tok _, ⟨_, rfl⟩, q⟩
theorem min_fold : ∀ (xs : List Int) (x : Int), (xs.foldl (fun a y => if PySem.W.DatumOrd.lt y a = true then y else a) x ∈ x :: xs) ∧ ∀ y ∈ x :: xs, xs.foldl (fun a y => if PySem.W.DatumOrd.lt y a = true then y else a) x ≤ y := by
  intro xs
  induction xs with
  | nil => exact fun x => ⟨List.mem_cons_self .., fun y hy => by rw [List.mem_singleton.mp hy]; exact Int.le_refl _⟩
  | cons z r ih =>
    intro x
    rw [List.foldl_cons]
    have lt : PySem.W.DatumOrd.lt z x = decide (z < x) := rfl
    obtain ⟨h1, h2⟩ := ih (if PySem.W.DatumOrd.lt z x = true then z else x)
    generalize List.foldl (fun a y => if PySem.W.DatumOrd.lt y a = true then y else a) (if PySem.W.DatumOrd.lt z x = true then z else x) r = m at h1 h2
    rw [lt] at h1 h2
    by_cases c : z < x
    · rw [decide_eq_true c, if_pos rfl] at h1 h2
      refine ⟨List.mem_cons_of_mem _ h1, fun y hy => ?_⟩
      rcases List.mem_cons.mp hy with e | hy
      · have := h2 z (List.mem_cons_self ..)
        omega
      · exact h2 y hy
    · rw [decide_eq_false c, if_neg (by decide)] at h1 h2
      refine ⟨?_, fun y hy => ?_⟩
      · rcases List.mem_cons.mp h1 with e | e
        · rw [e]; exact List.mem_cons_self ..
        · exact List.mem_cons_of_mem _ (List.mem_cons_of_mem _ e)
      · rcases List.mem_cons.mp hy with e | hy
        · rw [e]; exact h2 x (List.mem_cons_self ..)
        · rcases List.mem_cons.mp hy with e | hy
          · have := h2 x (List.mem_cons_self ..)
            omega
          · exact h2 y (List.mem_cons_of_mem _ hy)
def rMinT : List V → Hp → VK → Prop := fun vs H Q => ∃ (a : Addr) (ns : List Int), vs = [V.ref a] ∧ H a = some (.tup (ns.map V.int)) ∧ 0 < ns.length ∧ ∀ m, m ∈ ns → (∀ y, y ∈ ns → m ≤ y) → Q (.int m) H
theorem cr_minT (hc : X.calm = true) (hu : X.A.units + 64 < cLine) : CallR X (.builtin "min") rMinT := by
  intro pins s σ H vs us Q I r h
  obtain ⟨a, ns, rfl, hs, hne, q⟩ := h
  obtain ⟨its, rv, tp, _⟩ := I.tuple (show SqT X.K H a _ from .of hs)
  rw [Vals.ref1 r]
  have hi := ints_of_vals rv
  cases ns with
  | nil => exact absurd hne (Nat.lt_irrefl 0)
  | cons x xs =>
    refine PySem.W.min_tuple_datum (I.ok.hd hc) (show s.heap.IsTuple a its.toArray from tp) (x := x) (xs := xs) (by rw [List.toList_toArray]; exact PySem.W.HoldAll.of_ints hi) (by show X.A.units + 1 + 0 < cLine; omega) fun i v h' tk hv hh hk => ?_
    obtain ⟨h1, h2⟩ := min_fold xs x
    obtain ⟨as, hr⟩ := hh
    have ev : ∃ t, v = .int (PySem.W.minOf x xs) t := by
      generalize hg : (PySem.W.Datum.toD (PySem.W.minOf x xs) : PyData) = d at hr
      have hg' : PyData.int (PySem.W.minOf x xs) = d := hg
      subst hg'
      cases hr with
      | int n t => exact ⟨t, rfl⟩
    obtain ⟨t, rfl⟩ := ev
    exact ⟨.int _, H, I.kept hk, ⟨t, rfl⟩, q _ h1 h2⟩
end
end Rv
/-! rings of a goal, the log over a spare block, and how the rest is spread -/
namespace RL
/-- different numbers below n are at most n -/
theorem nd_len : ∀ (n : Nat) (p : List Nat), p.Nodup → (∀ x ∈ p, x < n) → p.length ≤ n := by
  intro n
  induction n with
  | zero =>
    intro p _ h
    cases p with
    | nil => exact Nat.le_refl _
    | cons x r => exact absurd (h x (List.mem_cons_self ..)) (Nat.not_lt_zero _)
  | succ n ih =>
    intro p nd h
    by_cases k : n ∈ p
    · have e := List.length_erase_of_mem k
      have := ih (p.erase n) (nd.erase n) fun x hx => by
        have h1 := h x (List.mem_of_mem_erase hx)
        have h2 : x ≠ n := fun z => by rw [z] at hx; exact absurd hx (nd.not_mem_erase)
        omega
      have : 0 < p.length := List.length_pos_of_mem k
      omega
    · have := ih p nd fun x hx => by
        have h1 := h x hx
        have h2 : x ≠ n := fun z => k (z ▸ hx)
        omega
      omega
theorem nd_inj {p : List Nat} (nd : p.Nodup) {i j x : Nat} (hi : p[i]? = some x) (hj : p[j]? = some x) : i = j := by
  obtain ⟨l1, e1⟩ := List.getElem?_eq_some_iff.mp hi
  obtain ⟨l2, e2⟩ := List.getElem?_eq_some_iff.mp hj
  have pw := List.pairwise_iff_getElem.mp nd
  rcases Nat.lt_trichotomy i j with h | h | h
  · exact absurd (e1.trans e2.symm) (pw i j l1 l2 h)
  · exact h
  · exact absurd (e2.trans e1.symm) (pw j i l2 l1 h)
variable {g : Nat → Nat} {n : Nat}
def fol (g : Nat → Nat) : Nat → List Nat → List Nat
  | 0, p => p
  | k + 1, p => if g (p.getLastD 0) ∈ p then p else fol g k (p ++ [g (p.getLastD 0)])
structure Pth (g : Nat → Nat) (n b : Nat) (p : List Nat) : Prop where
  hd : p[0]? = some b
  nd : p.Nodup
  lt : ∀ x ∈ p, x < n
  st : ∀ i x y, p[i]? = some x → p[i + 1]? = some y → y = g x
theorem Pth.start {b : Nat} (h : b < n) : Pth g n b [b] := ⟨rfl, by simp, fun x hx => by rw [List.mem_singleton.mp hx]; exact h, fun i x y _ h2 => by simp at h2⟩
theorem Pth.ne {b : Nat} {p : List Nat} (P : Pth g n b p) : p ≠ [] := fun e => by have := P.hd; rw [e] at this; cases this
theorem last_at {p : List Nat} (h : p ≠ []) : p[p.length - 1]? = some (p.getLastD 0) := by
  rw [List.getLastD_eq_getLast?, List.getLast?_eq_getElem?]
  cases p with
  | nil => exact absurd rfl h
  | cons x r =>
    rw [List.getElem?_eq_getElem (by rw [List.length_cons]; omega)]
    rfl
theorem last_mem {p : List Nat} (h : p ≠ []) : p.getLastD 0 ∈ p := List.mem_of_getElem? (last_at h)
theorem Pth.next {b : Nat} {p : List Nat} (P : Pth g n b p) (h : g (p.getLastD 0) ∉ p) (hl : g (p.getLastD 0) < n) : Pth g n b (p ++ [g (p.getLastD 0)]) := by
  have hp : 0 < p.length := List.length_pos_iff.mpr P.ne
  refine ⟨by rw [List.getElem?_append_left hp]; exact P.hd, ?_, fun x hx => ?_, fun i x y h1 h2 => ?_⟩
  · rw [List.nodup_append]
    exact ⟨P.nd, by simp, fun a ha b hb => by rw [List.mem_singleton.mp hb]; exact fun z => h (z ▸ ha)⟩
  · rcases List.mem_append.mp hx with k | k
    · exact P.lt x k
    · rw [List.mem_singleton.mp k]; exact hl
  · have h3 := (List.getElem?_eq_some_iff.mp h2).1
    rw [List.length_append, List.length_singleton] at h3
    rw [List.getElem?_append_left (by omega)] at h1
    by_cases k : i + 1 < p.length
    · rw [List.getElem?_append_left k] at h2
      exact P.st i x y h1 h2
    · have e : i = p.length - 1 := by omega
      rw [List.getElem?_append_right (by omega), show i + 1 - p.length = 0 by omega] at h2
      rw [e, last_at P.ne] at h1
      cases h1
      cases h2
      rfl
theorem Pth.len {b : Nat} {p : List Nat} (P : Pth g n b p) : p.length ≤ n := nd_len n p P.nd P.lt
theorem fol_stop {p : List Nat} (h : g (p.getLastD 0) ∈ p) : ∀ k, fol g k p = p
  | 0 => rfl
  | k + 1 => if_pos h
theorem fol_step {p : List Nat} (h : g (p.getLastD 0) ∉ p) (k : Nat) : fol g (k + 1) p = fol g k (p ++ [g (p.getLastD 0)]) := if_neg h
theorem fol_pre : ∀ k p, ∃ q, fol g k p = p ++ q := by
  intro k
  induction k with
  | zero => exact fun p => ⟨[], (List.append_nil p).symm⟩
  | succ k ih =>
    intro p
    by_cases h : g (p.getLastD 0) ∈ p
    · exact ⟨[], by rw [fol_stop h, List.append_nil]⟩
    · obtain ⟨q, e⟩ := ih (p ++ [g (p.getLastD 0)])
      exact ⟨g (p.getLastD 0) :: q, by rw [fol_step h, e, List.append_assoc]; rfl⟩
/-- the way from a block ends where it comes back to itself -/
theorem fol_end (hg : ∀ b, b < n → g b < n) {b : Nat} : ∀ k p, Pth g n b p → p.length + k = n + 1 → Pth g n b (fol g k p) ∧ g ((fol g k p).getLastD 0) ∈ fol g k p := by
  intro k
  induction k with
  | zero =>
    intro p P hl
    have := P.len
    omega
  | succ k ih =>
    intro p P hl
    by_cases h : g (p.getLastD 0) ∈ p
    · rw [fol_stop h]; exact ⟨P, h⟩
    · rw [fol_step h]
      exact ih _ (P.next h (hg _ (P.lt _ (last_mem P.ne)))) (by rw [List.length_append, List.length_singleton]; omega)
def F (g : Nat → Nat) (n b : Nat) : List Nat := fol g n [b]
theorem F_end (hg : ∀ b, b < n → g b < n) {b : Nat} (hb : b < n) : Pth g n b (F g n b) ∧ g ((F g n b).getLastD 0) ∈ F g n b := fol_end hg n [b] (.start hb) (by rw [List.length_singleton]; omega)
def IsR (g : Nat → Nat) (p : List Nat) : Prop := 1 < p.length ∧ g (p.getLastD 0) = p.headD 0 ∧ ∀ x ∈ p, p.headD 0 ≤ x
instance {g : Nat → Nat} {p : List Nat} : Decidable (IsR g p) := by unfold IsR; exact inferInstance
theorem Pth.headD {b : Nat} {p : List Nat} (P : Pth g n b p) : p.headD 0 = b := by
  have h := P.hd
  cases p with
  | nil => cases h
  | cons x r => exact Option.some.inj h
/-! counts -/
/-! the goal -/
structure GOk (gs : List Int) : Prop where
  l1 : 1 ≤ gs.length
  l12 : gs.length ≤ 12
  en : ∀ e ∈ gs, 0 ≤ e ∧ e < gs.length
def gn (gs : List Int) (b : Nat) : Nat := (gs.getD b 0).toNat
variable {gs : List Int}
def One (gs : List Int) (p : List Nat) : Prop := ∀ b ∈ p, gs.count (b : Int) = 1
instance {gs : List Int} {p : List Nat} : Decidable (One gs p) := by unfold One; exact inferInstance
def ways (gs : List Int) (i : Nat) : List (List Nat) := (List.range i).map (F (gn gs) gs.length)
def rgs (gs : List Int) (i : Nat) : List (List Nat) := (ways gs i).filter fun p => decide (IsR (gn gs) p)
def clo (gs : List Int) (i : Nat) : List (List Nat) := (rgs gs i).filter fun p => decide (One gs p)
abbrev clos (gs : List Int) : List (List Nat) := clo gs gs.length
abbrev inr (gs : List Int) : List Nat := (clos gs).flatten
def mov (gs : List Int) (i : Nat) : List Nat := (List.range i).filter fun b => decide (gn gs b ≠ b)
def rst (gs : List Int) : List Nat := (mov gs gs.length).filter fun b => decide (b ∉ inr gs)
/-! what a log of pairs (target, source) does -/
def ap (c : Nat → Nat) (q : Nat × Nat) : Nat → Nat := fun b => if b = q.1 then c q.2 else c b
def run (c : Nat → Nat) (qs : List (Nat × Nat)) : Nat → Nat := qs.foldl ap c
/-- the pairs of a way, its end from s -/
def tp : Nat → List Nat → Nat → List (Nat × Nat)
  | a, [], s => [(a, s)]
  | a, x :: r, s => (a, x) :: tp x r s
def VP (n : Nat) (q : Nat × Nat) : Prop := q.1 < n ∧ q.2 < n ∧ q.1 ≠ q.2
/-! the rest is spread -/
def rows0 (gs : List Int) (s : Nat) : List (Nat × Nat) := (clos gs).flatMap fun p => tp s p s
def c0 (gs : List Int) (s : Nat) : Nat → Nat := run id (rows0 gs s)
structure Sp (gs : List Int) (s : Nat) (W : List Nat) (h : Nat → Nat) (T : List (Nat × Nat)) : Prop where
  nd : W.Nodup
  sub : ∀ b ∈ W, b ∈ rst gs
  don : ∀ b ∈ rst gs, b ∉ W → run (c0 gs s) T b = gn gs b
  oth : ∀ b, b < gs.length → b ∉ rst gs → run (c0 gs s) T b = gn gs b
  hol : ∀ b ∈ W, run (c0 gs s) T (h (gn gs b)) = gn gs b
  hom : ∀ v, v < gs.length → h v = v ∨ (h v ∈ rst gs ∧ h v ∉ W)
  prc : ∀ b ∈ rst gs, b ∉ W → h (gn gs b) ∈ rst gs ∧ h (gn gs b) ∉ W
  len : T.length + W.length = (rst gs).length
  val : ∀ q ∈ T, VP gs.length q
end RL
/-! own error classes without fields; readings of the steps of Nw and Nx -/
namespace Rv
open PySem PySem.Spec PyProof.Rows L2
abbrev vBase : List Value := [.type "ValueError", .type "Exception", .type "BaseException", .type "object"]
/-- an error class without a maker of its own -/
structure Err0 (K : PySem.W.Frag) (mg : Str → Option Value) (C : Addr) (x : Str) : Prop where
  gC : mg x = some (.ref C)
  q : PySem.W.excIn K C vBase "ValueError.__new__" = true
  kC : PySem.W.keepIn K (.ref C) = true
  bC : PySem.W.subIn K (.ref C) (.type "BaseException") = some true
  tC : PySem.W.typeIn K (.ref C) = some (.type "type")
  ec : ExcC K C
  icl : PySem.W.isClsIn K C = true
section
variable {X : Cx} {C : Addr} {bmB : List Value} {B newId initId : String}
theorem pmk_own0 {x : Str} {p pos : Pos} (F : ExcBaseFacts B newId initId bmB) (q : PySem.W.excIn X.K C bmB newId = true) (gC : X.mg x = some (.ref C)) (kC : PySem.W.keepIn X.K (.ref C) = true) (r : Raises X (.ref C)) (hg : Gl X x)
    (hdb : (x == ("__debug__" : Str)) = false := by decide) : PMk X (.Call (.Name x p) [] [] pos) (fun _ H Q => Q (.ref C) none H) := by
  intro pins s σ H Q I h
  refine wpAny_Call_Name_kw (ld_glob I hg gC (PySem.W.callWith_K0 I.kIn kC ?_) hdb)
  show wpAny _ _ (call (.ref C) []) _ _ _
  obtain ⟨bm, N, nm, qn, bs, hdct, sn, sub, ab, col, dd, k0, k1, k2, k3, k5, mN, hC, hN, hni, T⟩ := exc_obj I.kIn q
  refine wpAny_call_exc_subT F T hC hN hni (fun h' e hm => ?_) (by show 0 ≤ sizeLine; exact Nat.zero_le _)
  exact mk_of I hm r h (I.hok.gone hm.new)
/-- isinstance of the exception that the suite holds, of an own class, without a dict -/
def rIsX0 (K : PySem.W.Frag) (D a : Addr) (cls : Value) (d : Option Addr) : List V → Hp → VK → Prop := fun xs H Q => ∃ (c : V) (cv : Value) (b : Bool), xs = [.ref a, c] ∧ (∀ u, RelV c u → u = cv) ∧ PySem.W.kitOne K (.ref D) cv = some b ∧ cls = .ref D ∧ d = none ∧ Q (.bl b) H
theorem call_isX0 {X : Cx} {a D : Addr} {oe : Obj} {cls : Value} {d : Option Addr} {pn : List (Addr × Obj)} (C : ExcC X.K D) (hz : Zc cls d oe) (hf : ∃ vs, oe.data = .fields vs) :
    CallR (X.suite a ((a, oe) :: pn)) (.builtin "isinstance") (rIsX0 X.K D a cls d) := by
  intro pins s σ H xs us Q I r h
  obtain ⟨c, cv, b, rfl, hcv, e, rfl, rfl, q⟩ := h
  exact call_isE C hz hf pins s σ H _ us Q I r ⟨c, cv, b, rfl, hcv, e, q⟩
end
section
variable {X : Cx} {K : PySem.W.Frag} {o e : Expr} {to te : TE} {apos cpos : Pos}
/-- a tuple of whole numbers whose object has no dict -/
def GT (H : Hp) (a : Addr) (gs : List Int) : Prop := ∃ o : Obj, H a = some (.frz o (.tup (gs.map V.int))) ∧ o.dict = none
theorem GT.sq {H : Hp} {a : Addr} {gs : List Int} (g : GT H a gs) : SqT K H a (gs.map V.int) := by
  obtain ⟨o, h, _⟩ := g
  exact .inl (.inr ⟨o, h⟩)
theorem GT.same {H H' : Hp} {a : Addr} {gs : List Int} (g : GT H a gs) (S : Same H H') : GT H' a gs := by
  obtain ⟨o, h, d⟩ := g
  exact ⟨o, S _ _ h, d⟩
def tTc (to te : TE) : TE := fun σ H Q => to σ H fun x H1 => ∃ p ns, x = .ref p ∧ GT H1 p ns ∧ te σ H1 fun y H2 => ∃ k, [y] = [V.int k] ∧ GT H2 p ns ∧ Q (.int (ns.count k : Nat)) H2
theorem pe_tcnt (hu : X.A.units + 64 < cLine) (ho : PE X o to) (he : PE X e te)
    (h1 : attributeBase o "count" X.env (eval o X.env) = eval o X.env := by rfl)
    (h2 : ((backTo cpos (starEach [e] X.env)).all (fun x => !x.1) && (backToKw cpos (keywordEach [] X.env)).all (fun x => x.1.isSome)
      && decide ([e].length + ([] : List Keyword).length + (if ([] : List Keyword).isEmpty then 0 else 1) < 30)) = true := by rfl)
    (h3 : (apos.endLine == cpos.line) = true := by rfl) (h4 : starEach [e] X.env = (false, eval e X.env) :: starEach [] X.env := by rfl) (h5 : (backTo cpos (starEach [] X.env)).any (·.1) = false := by rfl) :
    PE X (.Call (.Attribute o "count" apos) [e] [] cpos) (tTc to te) := by
  refine ⟨fun pins s σ H Q I h => ?_⟩
  refine wpAny_Call_method_late h1 h2 h3 rfl (thn (ho.run pins s σ H _ I h) fun v s1 ⟨x, H1, I1, r1, p, ns, ex, gp, q1⟩ => ?_)
  subst ex
  cases r1
  obtain ⟨ob, hb, hd⟩ := id gp
  obtain ⟨ho1, _, its, rv, o2, ho2, hc2, n2, hd2⟩ := (show ObjOk X.prog X.w H1 s1.heap p (.frz ob (.tup (ns.map V.int))) from I1.hok p _ hb)
  rw [ho1] at ho2
  cases ho2
  refine ⟨"tuple", _, PySem.F.plainAttrs_tuple, PySem.F.slot_tuple_count, PySem.F.type_tuple_count, ⟨_, ho1, hc2⟩, fun a ea => by cases ea; exact ⟨_, ho1, hd⟩, ?_⟩
  have ha : PA X [e] (tCons te tNil) := pa_cons he pa_nil (hs := h4)
  have hA := ha.run cpos pins s1 σ H1 (fun vs H2 => ∃ k, vs = [.int k] ∧ GT H2 p ns ∧ Q (.int (ns.count k : Nat)) H2) I1 q1
  rw [h4] at hA ⊢
  refine Calls.callWith_builtin (by show (false || (backTo cpos (starEach [] X.env)).any (·.1)) = false; rw [h5] <;> rfl) (Calls.evalArgs_plain ?_)
  exact thn hA fun us s2 ⟨vs, H2, I2, r2, k, ev, g2, q2⟩ => mt_tcount hu pins s2 σ H2 (.ref p) vs (.ref p) us Q I2 rfl r2 ⟨p, ns, k, rfl, ev, g2.sq, q2⟩
end
/-- tuple(list): the object is known -/
def rTupF (K : PySem.W.Frag) : List V → Hp → VK → Prop := fun xs H Q => ∃ (p : Addr) (ns : List Int), xs = [.ref p] ∧ SqL K H p (ns.map V.int) ∧ ∀ l (o : Obj), H l = none → o.dict = none → Q (.ref l) (upd H l (.frz o (.tup (ns.map V.int))))
theorem call_tupF {X : Cx} : CallR X (.type "tuple") (rTupF X.K) := by
  intro pins s σ H xs us Q I r h
  obtain ⟨p, ns, rfl, hq, q⟩ := h
  rw [Vals.ref1 r]
  obtain ⟨its, r', pl, hz⟩ := I.list hq
  have hlen := r'.length
  refine call_tuple_list pl.isList (fun h' kp => ?_) (by simp only [List.size_toArray] <;> omega)
  have I1 : Inv X pins σ H { s with heap := h' } := I.kept (t' := s.toks) kp
  have I2 := I1.laid (t' := s.toks) (h' := h'.push { cls := .type "tuple", data := .seq its.toArray }) (a := h'.objs.size) (o := .frz { cls := .type "tuple", data := .seq its.toArray } (.tup (ns.map V.int))) (fun b o e => Heap.get?_push_of_some _ e) (Nat.le_refl _)
    (show ObjOk X.prog X.w _ _ _ (.frz { cls := .type "tuple", data := .seq its.toArray } (.tup (ns.map V.int))) from ⟨Heap.get?_push_size _ rfl, hz, its, r', IsTup.new _ _⟩)
  exact ⟨.ref h'.objs.size, _, I2, rfl, q _ _ (I1.hok.fresh (Nat.le_refl _)) rfl⟩
def rIsG : List V → Hp → VK → Prop := fun vs H Q => ∃ (a : Addr) (gs : List Int), vs = [.ref a, .ty "tuple"] ∧ GT H a gs ∧ Q (.bl true) H
theorem call_isG {X : Cx} : CallR X (.builtin "isinstance") rIsG := by
  intro pins s σ H xs us Q I r h
  obtain ⟨a, gs, rfl, ⟨o, ha, hd⟩, q⟩ := h
  cases r with
  | cons rx rr =>
    cases rr with
    | cons rt rr =>
      cases rr
      cases rx
      cases rt
      obtain ⟨h1, _, its, rv, o2, h2, h3, n2, h4⟩ := (show ObjOk X.prog X.w H s.heap a (.frz o (.tup (gs.map V.int))) from I.hok a _ ha)
      exact PySem.W.kia_one PySem.W.kitx_tuple I.kIn ⟨o2, h2, h3⟩ (kit_ty (K := X.K) (show kitB "tuple" "tuple" = some true by decide +kernel)) (fun z => nomatch z) fun tk => ⟨.bl true, H, I.kept (t' := tk) fun _ _ z => z, rfl, q⟩
theorem feed_tupG {P : Program} {w : World} {K : PySem.W.Frag} (it a : Addr) (o : Obj) (xs : List V) :
    Feed P w K it xs.length (fun H => H a = some (.frz o (.tup xs))) (fun i => xs[i]?) (fun i h => h.IsTupleIter it a i) where
  cell := fun i h q => by
    obtain ⟨ob, e1, e2, e3⟩ := q
    refine ⟨ob, e1, fun v z => ?_⟩
    rw [e3] at z
    cases z
  stay := fun i h1 h2 q k => by
    obtain ⟨ob, e1, e2⟩ := q
    exact ⟨ob, k ob e1, e2⟩
  feed := fun X hP hw hK hc pins σ H s I hg hn => by
    obtain ⟨its, rv, hT, _⟩ := I.tuple (show SqT X.K H a xs from .inl (.inr ⟨o, hg⟩))
    have hl : its.toArray.size = xs.length := by
      rw [List.size_toArray]
      exact rv.length.symm
    have nai : a ≠ it := ne_of_none hg hn
    have D := Draws.tuple (prog := X.prog) (w := X.w) (A := X.A.in1) (show X.A.in1.handled = none from I.ok.hd hc) it a nai its.toArray
    rw [hl] at D
    refine ⟨[it, a], _, _, D, fun _ _ q => q.1, fun _ q => ⟨q, hT⟩, fun i u q => ?_, fun b hb hbn hm => ?_⟩
    · have q2 : its[i]? = some u := by simpa using q
      have hi : i < xs.length := by
        have := (List.getElem?_eq_some_iff.mp q2).1
        rw [rv.length]
        exact this
      obtain ⟨u', e1, r1⟩ := rv.get (List.getElem?_eq_getElem hi)
      rw [q2] at e1
      cases e1
      exact ⟨xs[i], r1, List.getElem?_eq_getElem hi⟩
    · rcases List.mem_cons.mp hm with z | z
      · exact hb z
      · have z2 : b = a := by simpa using z
        rw [z2, hg] at hbn
        cases hbn
section
variable {K : PySem.W.Frag} {σ : L2.St} {H : Hp} {Q : VK} {p : Addr} {gs : List Int} {R : It → Hp → Prop}
theorem rd_ixG {v : V} {i : Int} (g : GT H p gs) (e : atI (gs.map V.int) i = some v) (q : Q v H) : rIxT K (.ref p) (.int i) H Q := ⟨p, _, i, v, rfl, rfl, g.sq, e, q⟩
theorem rd_lenG (g : GT H p gs) (q : Q (.int (gs.length : Nat)) H) : rLenQ K [.ref p] H Q := ⟨p, _, rfl, .inr g.sq, by rw [List.length_map]; exact q⟩
theorem rd_isG (g : GT H p gs) (q : Q (.bl true) H) : rIsG [.ref p, .ty "tuple"] H Q := ⟨p, gs, rfl, g, q⟩
theorem rd_tupF (h : H p = some (.lst (gs.map V.int))) (q : ∀ H2 l, Same H H2 → H l = none → GT H2 l gs → Q (.ref l) H2) : rTupF K [.ref p] H Q :=
  ⟨p, gs, rfl, .of h, fun l o nl d => q _ l (same_new (Same.refl _) nl) nl ⟨o, upd_same, d⟩⟩
end
section
variable {K : PySem.W.Frag} {σ : L2.St} {H : Hp} {Q : VK}
theorem rd_minT {a : Addr} {ns : List Int} (h : H a = some (.tup (ns.map V.int))) (l : 0 < ns.length) (q : ∀ m, m ∈ ns → (∀ y, y ∈ ns → m ≤ y) → Q (.int m) H) : rMinT [.ref a] H Q := ⟨a, ns, rfl, h, l, q⟩
end
open RL
def niz (l : List Nat) : List Int := l.map fun b : Nat => (b : Int)
def nvs (l : List Nat) : List V := (niz l).map V.int
theorem niz_len (l : List Nat) : (niz l).length = l.length := List.length_map ..
theorem nvs_len (l : List Nat) : (nvs l).length = l.length := by unfold nvs; rw [List.length_map, niz_len]
theorem mem_niz {b : Nat} {l : List Nat} : (b : Int) ∈ niz l ↔ b ∈ l := by
  unfold niz
  rw [List.mem_map]
  exact ⟨fun ⟨x, hx, e⟩ => (Int.ofNat.inj e) ▸ hx, fun h => ⟨b, h, rfl⟩⟩
theorem niz_of {k : Int} {l : List Nat} (h : k ∈ niz l) : ∃ b : Nat, k = (b : Int) ∧ b ∈ l := by
  obtain ⟨b, hb, e⟩ := List.mem_map.mp h
  exact ⟨b, e.symm, hb⟩
theorem nvs_app (a b : List Nat) : nvs (a ++ b) = nvs a ++ nvs b := by unfold nvs niz; rw [List.map_append, List.map_append]
theorem nvs_get {l : List Nat} {i b : Nat} (h : l[i]? = some b) : (nvs l)[i]? = some (V.int (b : Int)) := by unfold nvs niz; rw [List.getElem?_map, List.getElem?_map, h]; rfl
theorem nvs_atI {l : List Nat} {i b : Nat} (h : l[i]? = some b) : atI (nvs l) (i : Int) = some (V.int (b : Int)) := atI_nat (nvs_get h)
theorem nvs_last {l : List Nat} (h : l ≠ []) : atI (nvs l) (-1) = some (V.int ((l.getLastD 0 : Nat) : Int)) := by
  have hl : 0 < l.length := List.length_pos_iff.mpr h
  have e := nvs_get (last_at h)
  have hn := nvs_len l
  unfold atI ixN
  rw [hn, if_neg (by decide), if_pos (by omega)]
  show (nvs l)[((-1 : Int) + ((l.length : Nat) : Int)).toNat]? = _
  rw [show ((-1 : Int) + ((l.length : Nat) : Int)).toNat = l.length - 1 by omega]
  exact e
theorem nvs_in {b : Nat} {l : List Nat} : inV (V.int (b : Int)) (nvs l) = decide (b ∈ l) := by
  unfold nvs
  rw [inV_ints]
  by_cases h : b ∈ l
  · rw [decide_eq_true h, decide_eq_true (mem_niz.mpr h)]
  · rw [decide_eq_false h, decide_eq_false (fun z => h (mem_niz.mp z))]
theorem nvs_flat (l : List Nat) : (nvs l).all flatV = true := by
  unfold nvs
  rw [List.all_eq_true]
  intro x hx
  obtain ⟨k, _, rfl⟩ := List.mem_map.mp hx
  rfl
theorem ints_flat (l : List Int) : (l.map V.int).all flatV = true := by
  rw [List.all_eq_true]
  intro x hx
  obtain ⟨k, _, rfl⟩ := List.mem_map.mp hx
  rfl
/-- rows of block numbers -/
abbrev NRows (H : Hp) (bs : List Addr) (ps : List (List Nat)) : Prop := TupsAt H bs (ps.map nvs)
theorem NRows.len {H : Hp} {bs : List Addr} {ps : List (List Nat)} (t : NRows H bs ps) : bs.length = ps.length := by rw [t.1, List.length_map]
theorem NRows.kt {H H' : Hp} {bs : List Addr} {ps : List (List Nat)} (t : NRows H bs ps) (k : Kt H H') : NRows H' bs ps := TupsAt.kt k t
theorem NRows.same {H H' : Hp} {bs : List Addr} {ps : List (List Nat)} (t : NRows H bs ps) (S : Same H H') : NRows H' bs ps := TupsAt.same S t
theorem NRows.snoc {H : Hp} {bs : List Addr} {ps : List (List Nat)} {a : Addr} {p : List Nat} (t : NRows H bs ps) (h : H a = some (.tup (nvs p))) : NRows H (bs ++ [a]) (ps ++ [p]) := by
  unfold NRows
  rw [List.map_append]
  exact TupsAt.app t h
theorem NRows.at {H : Hp} {bs : List Addr} {ps : List (List Nat)} (t : NRows H bs ps) {i : Nat} {p : List Nat} (h : ps[i]? = some p) : ∃ a, bs[i]? = some a ∧ H a = some (.tup (nvs p)) := t.2 i _ (by rw [List.getElem?_map, h]; rfl)
theorem rd_ninT {K : PySem.W.Frag} {H : Hp} {Q : VK} {p : Addr} {xs : List V} {x : V} (h : H p = some (.tup xs)) (fx : flatV x = true) (fs : xs.all flatV = true) (q : Q (.bl (!inV x xs)) H) : rIn K true x (.ref p) H Q := ⟨p, xs, rfl, .inr (SqT.of h), fx, fs, q⟩
/-! a comprehension with two clauses over a list of tuples -/
end Rv
/-! no log of copies to a goal is shorter than the blocks that change and the closed rings together (for k34) -/
namespace RL
variable {gs : List Int}
end RL
/-! {t: v}, t a tuple -/
namespace Rv
open PySem PySem.Spec PyProof.Rows L2
section
variable {X : Cx} {k v : Expr} {tk tv : TE} {pos : Pos}
end
end Rv
/-! the search by breadth of k34: the least number of copies to each image -/
namespace RL
def Reach (n k : Nat) (im : List Nat) : Prop := ∃ qs : List (Nat × Nat), qs.length = k ∧ (∀ q ∈ qs, q.1 < n ∧ q.2 < n) ∧ im = (List.range n).map (run id qs)
theorem Reach.len {n k : Nat} {im : List Nat} (h : Reach n k im) : im.length = n := by
  obtain ⟨_, _, _, e⟩ := h
  rw [e, List.length_map, List.length_range]
/-! the least number of a goal -/
end RL
/-! a tuple that is known to have no dict as a key -/
namespace Rv
open PySem PySem.Spec PyProof.Rows L2
section
variable {X : Cx} {i o : Expr} {ty td : TE} {pos : Pos}
end
/-! t + u, empty ones too -/
def rCat3 (K : PySem.W.Frag) : R2 := fun x y H Q => ∃ (a b : Addr) (xs ys : List V), x = .ref a ∧ y = .ref b ∧ SqT K H a xs ∧ SqT K H b ys ∧ xs.length + ys.length ≤ sizeLine ∧
  (xs = [] → Q (.ref b) H) ∧ (xs ≠ [] → ys = [] → Q (.ref a) H) ∧ (xs ≠ [] → ys ≠ [] → ∀ p, H p = none → Q (.ref p) (upd H p (.tup (xs ++ ys))))
theorem op_cat3 {X : Cx} : OpR X (binaryOp .Add) (rCat3 X.K) := by
  intro pins s σ H x y v u Q I rx ry h
  obtain ⟨a, b, xs, ys, rfl, rfl, ha, hb, hz, q0, q1, q2⟩ := h
  by_cases ne : xs = []
  · subst ne
    cases rx
    cases ry
    obtain ⟨its, r1, p1, _⟩ := I.tuple ha
    obtain ⟨its2, r2, p2, _⟩ := I.tuple hb
    cases r1
    obtain ⟨⟨cls, dd, data, sl⟩, ho, hc, n, hd⟩ := id p1
    obtain ⟨⟨cls2, dd2, data2, sl2⟩, ho2, hc2, n2, hd2⟩ := id p2
    simp only at hc hd hc2 hd2
    subst hc hd hc2 hd2
    exact concat_meets ⟨_, ho, rfl⟩ ⟨_, ho2, rfl⟩ noFill_tuple_add seq_tuple_add PySem.F.slot_tuple_add PySem.F.entry_tuple_add (PySem.F.args_tuple_add_2 _ _) (tuple_addW0 a b _ _ n n2 dd dd2 sl sl2 rfl) ⟨ho, ho2, ⟨.ref b, H, I, rfl, q0 rfl⟩⟩
  · exact op_catT pins s σ H _ _ v u Q I rx ry ⟨a, b, xs, ys, rfl, rfl, ha, hb, ne, hz, fun e => q1 ne e, fun e => q2 ne e⟩
theorem rd_cat3 {K : PySem.W.Frag} {H : Hp} {Q : VK} {a b : Addr} {xs ys : List V} (h : H a = some (.tup xs)) (h2 : H b = some (.tup ys)) (l : xs.length + ys.length ≤ 1000) (q : ∀ H2 p, Same H H2 → H2 p = some (.tup (xs ++ ys)) → Q (.ref p) H2) : rCat3 K (.ref a) (.ref b) H Q :=
  ⟨a, b, xs, ys, rfl, rfl, .of h, .of h2, Nat.le_of_lt (small1000 (by omega)), fun e => q H b (Same.refl _) (by rw [e]; exact h2), fun _ e => q H a (Same.refl _) (by rw [e, List.append_nil]; exact h), fun _ _ p np => q _ p (same_new (Same.refl _) np) upd_same⟩
end Rv
/-! the table of k34: images and numbers -/
namespace Rv
open PySem PySem.Spec PyProof.Rows L2 RL
theorem niz_inj {a b : List Nat} (h : niz a = niz b) : a = b := by
  unfold niz at h
  exact List.map_inj_right (f := fun x : Nat => (x : Int)) (fun x y e => Int.ofNat.inj e) |>.mp h
end Rv
/-! the mathematics of k36: steps between images -/
namespace RS
open RL
/-! copies -/
/-! logs -/
/-! all images -/
end RS
/-! for k36: dicts of images, list(d), zip of two tuples, rows by two clauses -/
namespace Rv
open PySem PySem.Spec PyProof.Rows L2 RL RS
section
variable {H H' : Hp} {d b l : Addr} {ks : List (List Nat)} {x : List Nat} {Q : VK} {R : Hp → Prop} {v : V} {o : HO}
/-! list(d) -/
end
/-! zip of two tuples -/
section
variable {K : PySem.W.Frag} {σ : L2.St} {H : Hp} {a b : Addr} {xs ys : List V} {R : It → Hp → Prop}
def ZpA (K : PySem.W.Frag) (R : It → Hp → Prop) (vs : List V) (H1 : Hp) : Prop := ∃ a b xs ys, vs = [.ref a, .ref b] ∧ ((SqL K H1 a xs ∧ SqL K H1 b ys ∧ R (Itz K a b) H1) ∨ (SqT K H1 a xs ∧ SqT K H1 b ys ∧ R (RZ.ItzT K a b) H1))
theorem pi_zpA {X : Cx} {e e2 : Expr} {ta : TA} {p pos tpos : Pos} {elts : List Expr} {kk : Nat} (hK : X.K = K) (hg : Gl X "zip") (hm : X.mg "zip" = none) (ha : PA X [e, e2] ta)
    (hs : starEach [e, e2] X.env = (false, eval e X.env) :: starEach [e2] X.env := by rfl) (hpl : (backTo pos (starEach [e2] X.env)).any (·.1) = false := by rfl) :
    PI X (.Tuple elts kk tpos) (.Call (.Name "zip" p) [e, e2] [] pos) (RZ.iZipA K ta) := by
  subst hK
  exact RZ.pi_zipA hg hm ha hs hpl
theorem rd_iZpA {ta : TA} (q : ta σ H fun vs H1 => ZpA K R vs H1) : RZ.iZipA K ta σ H R := q
theorem walk_zipT {n : Nat} (hn : n = min xs.length ys.length) : Walk (RZ.ItzT K a b) n (fun H => SqT K H a xs ∧ SqT K H b ys) (YPair (fun i => xs[i]?) (fun i => ys[i]?)) := by
  subst hn
  refine ⟨fun i _ hi q => ?_, fun _ q => ⟨xs, ys, q.1, q.2, by omega⟩, fun i H v H' _ q y => ?_⟩
  · have h1 : i < xs.length := by omega
    have h2 : i < ys.length := by omega
    exact ⟨xs, ys, xs[i], ys[i], q.1, q.2, by simp [h1], by simp [h2]⟩
  · obtain ⟨T, x, y, h1, h2, h3, h4, h5⟩ := y
    exact ⟨T, x, y, h1, h2, h3, h4 _ q.1, h5 _ q.2⟩
end
/-! a comprehension over rows and numbers -/
end Rv
/-! for k36: equality of images, common places, filters, what a helper leaves -/
namespace Rv
open PySem PySem.Spec PyProof.Rows L2 RL RS
theorem eqv_intsT : ∀ (a b : List Int), PyData.eqv (.tuple (a.map PyData.int)) (.tuple (b.map PyData.int)) = decide (a = b)
  | [], [] => rfl
  | [], _ :: _ => rfl
  | _ :: _, [] => rfl
  | x :: r, y :: t => by
    have ih := eqv_intsT r t
    have e : PyData.eqv (.tuple ((x :: r).map PyData.int)) (.tuple ((y :: t).map PyData.int)) = (decide (x = y) && PyData.eqv (.tuple (r.map PyData.int)) (.tuple (t.map PyData.int))) := rfl
    rw [e, ih, Bool.eq_iff_iff, Bool.and_eq_true, decide_eq_true_eq, decide_eq_true_eq, decide_eq_true_eq, List.cons.injEq]
theorem shT (xs : List Int) : SeqAt.shaped (.tuple (xs.map PyData.int)) = true := by
  obtain ⟨a1, a2⟩ := lay_ints xs
  unfold SeqAt.shaped
  rw [Bool.and_eq_true]
  refine ⟨a1, decide_eq_true ?_⟩
  show PyData.depthAll (xs.map PyData.int) + 1 ≤ 64
  omega
/-! common places -/
/-! filters -/
/-! what a helper leaves that may change one list -/
end Rv
/-! own classes: facts, makers, methods, static methods, fields -/
namespace Rv
open PySem PySem.Spec PyProof.Rows L2
/-- its maker -/
structure IDef (K : PySem.W.Frag) (C : Addr) (qual : Str) (st : Stmt) (ps : List Str) (f : Addr) (fd : FuncData) : Prop where
  F : Fun K "__init__" qual st f fd
  b : Binds K fd ps []
  mkr : L2.Mk K C f
/-- a method -/
structure MDef (K : PySem.W.Frag) (C : Addr) (m qual : Str) (st : Stmt) (ps : List Str) (f : Addr) (fd : FuncData) : Prop where
  F : Fun K m qual st f fd
  b : Binds K fd ps []
  m : Meth K C m f
/-- a static method -/
structure SMet (K : PySem.W.Frag) (C : Addr) (m : Str) (p g : Addr) : Prop where
  ga : PySem.W.specialIn K (.ref C) "__getattribute__" = some (some (.builtin "type.__getattribute__"))
  rd : PySem.W.readsIn K C (.type "type") = true
  at_ : PySem.W.findCls K (.ref C) (.type "type") m = some (.get (.builtin "staticmethod.__get__") (.ref p) .none (.ref C))
  rc : ∃ rest, PySem.W.recIn K p "staticmethod" = some (.ref g :: rest)
  kp : PySem.W.keepIn K (.ref g) = true
structure SDef (K : PySem.W.Frag) (C : Addr) (m qual : Str) (st : Stmt) (ps : List Str) (f : Addr) (fd : FuncData) : Prop where
  F : Fun K m qual st f fd
  b : Binds K fd ps []
  s : ∃ p, SMet K C m p f
section
variable {X : Cx} {CX : CXT} {k : Nat} {f C p g : Addr} {fd : FuncData} {ps : List Str} {sp : Sp} {E : XK} {m : Str} {pos apos : Pos} {e o : Expr} {es : List Expr} {ta : TE} {t : TA} {pl : Sem Bool}
end
section
variable {K : PySem.W.Frag} {mg : Str → Option Value} {σ : L2.St} {H : Hp} {Q : VK} {C a dx : Addr} {fs : List (Str × V)} {f m : Str} {v : V} {sp : Sp} {E : XK} {ta tv : TE} {t : TA}
/-! readings -/
end
end Rv
/-! sorted(t), t a tuple of whole numbers -/
namespace Rv
open PySem PySem.Spec PyProof.Rows L2 PySem.Calls
section
variable {prog : Program} {w : World} {A : Around} {E : Value → Shared → Prop} {s : Shared}
theorem gatherT {tp : Addr} {us : List Value} {Q : List Value → Shared → Prop} (it : IsTup s.heap tp us.toArray) (few : us.length ≤ 1000)
    (k : Q us { s with heap := (s.heap.push (seqObj "list" #[] 0)).update s.heap.objs.size (Obj.mapSeq (· ++ us.toArray)) }) :
    wpAny (model prog w) A (collect (.ref tp)) Q E s := by
  obtain ⟨ob, hob, hcl, m, hda⟩ := id it
  have room : us.length ≤ sizeLine := Nat.le_of_lt (small1000 few)
  unfold collect
  refine wpAny_bind (wpAny_runValue (codeAny_builtin entry_proto_collect' ?_))
  show wpAny (model prog w) _ (do again (.builtin "list.__iadd__" ⟨[← newList [], .ref tp], []⟩)) _ _ s
  refine wpAny_bind (wpAny_newList (wpAny_pure ⟨Code.quiet_builtin _ (by decide +kernel), codeAny_builtin entry_list_iadd' ?_⟩))
  have hob2 : (s.heap.push (seqObj "list" #[] 0)).get? tp = some ob := Heap.get?_push_of_some _ hob
  show wpAny (model prog w) _ (Builtin.List.listExtendWith (.ref s.heap.objs.size) (.ref tp) (.ref s.heap.objs.size)) _ _ { s with heap := s.heap.push (seqObj "list" #[] 0) }
  unfold Builtin.List.listExtendWith
  have isT : (Value.type "tuple" == Value.type "tuple") = true := rfl
  refine wpAny_bind (wpAny_typeOf (T := "tuple") ⟨ob, hob2, hcl⟩ ?_)
  rw [if_pos (by rw [isT, Bool.or_true])]
  refine wpAny_bind (listItems_at hob2 hda ?_)
  refine wpAny_bind (listItems_at (n := 0) (xs := #[]) (Heap.get?_push_size _ rfl) rfl ?_)
  rw [if_neg (by simp)]
  have grow : ((#[] : Array Value) ++ us.toArray).size ≤ sizeLine + 1 := by simp only [Array.size_append, List.size_toArray, List.length_nil]; omega
  refine wpAny_bind (listUpdate_at (n := 0) (xs := #[]) (Heap.get?_push_size _ rfl) rfl ?_ (Nat.zero_le _) grow)
  refine wpAny_pure ?_
  have got := get?_update_seq (Heap.get?_push_size (o := seqObj "list" #[] 0) s.heap rfl) (· ++ us.toArray)
  show wpAny (model prog w) A (do
      let ob ← load s.heap.objs.size
      match ob.data with
      | .seq zs _ => pure zs.toList
      | _ => unsupported "internal:collect") Q E { s with heap := (s.heap.push (seqObj "list" #[] 0)).update s.heap.objs.size (Obj.mapSeq (· ++ us.toArray)) }
  refine wpAny_bind (wpAny_load (get?_update_seq (Heap.get?_push_size _ rfl) _) ?_)
  show wpAny (model prog w) A (pure ((#[] : Array Value) ++ us.toArray).toList) Q E _
  rw [show ((#[] : Array Value) ++ us.toArray).toList = us by simp]
  exact wpAny_pure k
theorem sortT {tp : Addr} {us : List Value} {ns : List Int} {Q : Value → Shared → Prop} (it : IsTup s.heap tp us.toArray) (num : IntsAre us ns) (few : us.length < 64)
    (k : ∀ (out : Array Value) (ms : List Int), IntsAre out.toList ms → ms.Perm ns → ms.Pairwise (· ≤ ·) → Q (.ref (s.heap.objs.size + 1)) { s with heap := sortedAll s.heap us out }) :
    wpAny (model prog w) A (call (.builtin "sorted") [.ref tp]) Q E s := by
  refine call_function_entry kind_sorted plain_sorted entry_sorted (args_sorted1 _) ?_
  unfold Builtin.«sorted»
  refine wpAny_bind (m := checkCount "sorted" 1 1 _) (wpAny_pure (wpAny_bind (gatherT it (by omega) (wpAny_bind (wpAny_newList ?_)))))
  have size1 : ((s.heap.push (seqObj "list" #[] 0)).update s.heap.objs.size (Obj.mapSeq (· ++ us.toArray))).objs.size = s.heap.objs.size + 1 := by
    rw [Heap.size_update, size_push']
  have at1 := Heap.get?_push_size ((s.heap.push (seqObj "list" #[] 0)).update s.heap.objs.size (Obj.mapSeq (· ++ us.toArray))) (o := seqObj "list" us.toArray 0) rfl
  rw [size1] at at1
  show wpAny (model prog w) _ _ _ _ { s with heap := ((s.heap.push (seqObj "list" #[] 0)).update s.heap.objs.size (Obj.mapSeq (· ++ us.toArray))).push (seqObj "list" us.toArray 0) }
  rw [size1]
  refine wpAny_bind (wpAny_holding (wpAny_call_entry slot_list_sort ⟨_, at1, rfl⟩ entry_list_sort (list_sort_tree at1 num few fun out ms b1 b2 b3 => ⟨_, rfl, ?_⟩) (args_list_sort _)))
  exact wpAny_pure ⟨_, rfl, k out ms b1 b2 b3⟩
end
end Rv
/-! the mathematics of k07: steps of Lagging, Workers, Machine -/
namespace RM
end RM
/-! for k07: how steps, specs and rules lie in the heap; a box of draws with two lists -/
namespace Rv
open PySem PySem.Spec PyProof.Rows L2 RM
/-! what never changes stays -/
section
variable {H H' H1 H2 : Hp} {p a : Addr} {o x : HO} {xs : List V} {gs : List Int} {B : Box}
end
/-! steps; a state is a tuple whose object is known -/
section
variable {K : PySem.W.Frag} {H H' : Hp} {p : Addr} {s : Stp} {ps qs : List Addr} {ss ts : List Stp}
end
/-! specs -/
/-! rules; M: what may change elsewhere -/
/-! the box: numbers, great ones, a great one that is used up, a count -/
section
variable {b c g : Addr} {ns gs : List Int} {n1 : b ≠ c} {n2 : g ≠ c} {n3 : b ≠ g} {H H' : Hp} {bu ct : Int}
end
end Rv
/-! t * 1 -/
namespace Rv
open PySem PySem.Spec PyProof.Rows L2
/-! tuples whose object is known -/
/-- t.index(k) -/
def tTix (to te : TE) : TE := fun σ H Q => to σ H fun x H1 => ∃ p ns, x = .ref p ∧ GT H1 p ns ∧ te σ H1 fun y H2 => ∃ k, [y] = [V.int k] ∧ GT H2 p ns ∧ k ∈ ns ∧ Q (.int (ns.idxOf k : Nat)) H2
def rTIxQ (K : PySem.W.Frag) : V → List V → Hp → VK → Prop := fun x xs H Q => ∃ (p : Addr) (ns : List Int) (k : Int), x = .ref p ∧ xs = [.int k] ∧ SqT K H p (ns.map V.int) ∧ k ∈ ns ∧ Q (.int (ns.idxOf k : Nat)) H
theorem mt_tIxQ {X : Cx} : MtR X "tuple.index" (rTIxQ X.K) := by
  intro pins s σ H x xs v us Q I rx rs h
  obtain ⟨p, ns, k, rfl, rfl, hs, hk, q⟩ := h
  cases rx
  obtain ⟨u, rfl, ru⟩ := rs.one
  obtain ⟨t, rfl⟩ := ru
  obtain ⟨its, rv, tp, _⟩ := I.tuple hs
  exact PySem.SeqAt.tuple_index_ints (show s.heap.IsTuple p its.toArray from tp) (ints_of_vals rv) hk ⟨.int (ns.idxOf k : Nat), H, I.tok _, ⟨_, rfl⟩, q⟩
theorem pe_tix {X : Cx} {o e : Expr} {to te : TE} {apos cpos : Pos} (ho : PE X o to) (he : PE X e te)
    (h1 : attributeBase o "index" X.env (eval o X.env) = eval o X.env := by rfl)
    (h2 : ((backTo cpos (starEach [e] X.env)).all (fun x => !x.1) && (backToKw cpos (keywordEach [] X.env)).all (fun x => x.1.isSome)
      && decide ([e].length + ([] : List Keyword).length + (if ([] : List Keyword).isEmpty then 0 else 1) < 30)) = true := by rfl)
    (h3 : (apos.endLine == cpos.line) = true := by rfl) (h4 : starEach [e] X.env = (false, eval e X.env) :: starEach [] X.env := by rfl) (h5 : (backTo cpos (starEach [] X.env)).any (·.1) = false := by rfl) :
    PE X (.Call (.Attribute o "index" apos) [e] [] cpos) (tTix to te) := by
  refine ⟨fun pins s σ H Q I h => ?_⟩
  refine wpAny_Call_method_late h1 h2 h3 rfl (thn (ho.run pins s σ H _ I h) fun v s1 ⟨x, H1, I1, r1, p, ns, ex, gp, q1⟩ => ?_)
  subst ex
  cases r1
  obtain ⟨ob, hb, hd⟩ := id gp
  obtain ⟨ho1, _, its, rv, o2, ho2, hc2, n2, hd2⟩ := (show ObjOk X.prog X.w H1 s1.heap p (.frz ob (.tup (ns.map V.int))) from I1.hok p _ hb)
  rw [ho1] at ho2
  cases ho2
  refine ⟨"tuple", _, PySem.F.plainAttrs_tuple, PySem.F.slot_tuple_index, PySem.F.type_tuple_index, ⟨_, ho1, hc2⟩, fun a ea => by cases ea; exact ⟨_, ho1, hd⟩, ?_⟩
  have ha : PA X [e] (tCons te tNil) := pa_cons he pa_nil (hs := h4)
  have hA := ha.run cpos pins s1 σ H1 (fun vs H2 => ∃ k, vs = [.int k] ∧ GT H2 p ns ∧ k ∈ ns ∧ Q (.int (ns.idxOf k : Nat)) H2) I1 q1
  rw [h4] at hA ⊢
  refine Calls.callWith_builtin (by show (false || (backTo cpos (starEach [] X.env)).any (·.1)) = false; rw [h5] <;> rfl) (Calls.evalArgs_plain ?_)
  exact thn hA fun us s2 ⟨vs, H2, I2, r2, k, ev, g2, hk, q2⟩ => mt_tIxQ pins s2 σ H2 (.ref p) vs (.ref p) us Q I2 rfl r2 ⟨p, ns, k, rfl, ev, g2.sq, hk, q2⟩
section
variable {K : PySem.W.Frag} {w : World} {H : Hp} {Q : VK} {p : Addr} {gs ns : List Int} {σ : L2.St}
end
end Rv
/-! dict methods of a field, list methods of what is made; the leads of a Machine -/
namespace Rv
open PySem PySem.Spec PyProof.Rows L2 RM
section
variable {σ : L2.St} {H : Hp} {Q : VK} {td ty tx to : TE} {t : TA} {K : PySem.W.Frag} {a : Addr} {kvs : List (Key × V)} {xs : List V}
end
section
variable {H0 H H1 : Hp} {d l0 : Addr} {es : List (Nat × Int × Nat)} {kvs : List (Key × V)} {s : Nat}
end
end Rv
/-! own classes without a maker of their own -/
namespace Rv
open PySem PySem.Spec PyProof.Rows L2
section
variable {X : Cx} {C : Addr} {x : Str} {p pos : Pos}
end
end Rv
/-! the mathematics of k09: simple rules, Either, Lagging -/
namespace RU
open RM
inductive Lf where
  | once | top | mark
  | pts (nw : Bool) (ns : List Nat)
  | late (o : Option (List Nat))
inductive Rl where
  | leaf (l : Lf)
  | lag (n : Nat)
  | eit (ls : List Lf)
def VR : Rl → Nat → List Nat → Prop
  | .lag _, len, st => ∃ p h, st = [p, h] ∧ p ≤ len ∧ h ≤ 60
  | _, len, st => ∃ p, st = [p] ∧ p ≤ len
end RU
/-! for k09: list(d) of a dict by steps; steps, rules in the heap -/
namespace Rv
open PySem PySem.Spec PyProof.Rows L2 RM RU
/-! list(d) -/
/-! steps whose states are plain tuples -/
section
variable {K : PySem.W.Frag} {H H' : Hp} {p : Addr} {s : Stp} {ps qs : List Addr} {ss ts : List Stp}
end
/-! rules -/
/-- all objects but lists stay -/
def Ki (H H' : Hp) : Prop := ∀ a o, (∀ xs, o ≠ .lst xs) → H a = some o → H' a = some o
section
variable {H H' H1 : Hp} {B : Box} {K : PySem.W.Frag} {a p : Addr}
theorem Ki.same (S : Same H H') : Ki H H' := fun a o _ h => S _ _ h
end
/-! specs -/
theorem VR.len {r : Rl} {m : Nat} {st : List Nat} (v : VR r m st) {n : Nat} {st2 : List Nat} (v2 : VR r n st2) : st2.length = st.length := by
  cases r with
  | lag a => obtain ⟨p, h, rfl, _⟩ := v; obtain ⟨p2, h2, rfl, _⟩ := v2; rfl
  | leaf a => obtain ⟨p, rfl, _⟩ := v; obtain ⟨p2, rfl, _⟩ := v2; rfl
  | eit a => obtain ⟨p, rfl, _⟩ := v; obtain ⟨p2, rfl, _⟩ := v2; rfl
end Rv
/-! dicts whose keys are tuples, also within tuples: of any nesting -/
namespace Rv
open PySem PySem.Spec PyProof.Rows L2
/-- every tuple stays -/
def Kf (H H' : Hp) : Prop := ∀ a xs, L2.Rd H a (.tup xs) → L2.Rd H' a (.tup xs)
section
variable {H H' H1 : Hp} {d : Addr} {o u : HO}
theorem Kf.ki (k : Ki H H') : Kf H H' := fun a xs h => h.elim (fun e => .inl (k _ _ (fun ys z => by cases z) e)) fun ⟨o, e⟩ => .inr ⟨o, k _ _ (fun ys z => by cases z) e⟩
theorem Kf.same (S : Same H H') : Kf H H' := .ki (Ki.same S)
theorem Kf.mut (h : H d = some o) (nt : ∀ xs, o ≠ .tup xs) (nf : ∀ b v, o ≠ .frz b v) : Kf H (upd H d u) := fun a xs r => by
  rcases r with e | ⟨b, e⟩
  · exact .inl (by rw [upd_ne (ne_of e h (nt xs).symm)]; exact e)
  · exact .inr ⟨b, by rw [upd_ne (ne_of e h (nf b _).symm)]; exact e⟩
end
mutual
/-- a key in the heap -/
inductive GAt (H : Hp) : NestedKey → V → Prop
  | num (i : Int) : GAt H (.num i) (.int i)
  | tup {ks : List NestedKey} {q : Addr} {xs : List V} (h : L2.Rd H q (.tup xs)) (a : GAll H ks xs) : GAt H (.tup ks) (.ref q)
inductive GAll (H : Hp) : List NestedKey → List V → Prop
  | nil : GAll H [] []
  | cons {k : NestedKey} {ks : List NestedKey} {x : V} {xs : List V} (h : GAt H k x) (t : GAll H ks xs) : GAll H (k :: ks) (x :: xs)
end
mutual
theorem GAt.kf {H H' : Hp} (k : Kf H H') : ∀ (key : NestedKey) (v : V), GAt H key v → GAt H' key v
  | .num i, _, h => by cases h; exact .num i
  | .tup ks, _, h => by cases h with | tup h a => exact .tup (k _ _ h) (GAll.kf k ks _ a)
  | .none, _, h => nomatch h
  | .text _, _, h => nomatch h
theorem GAll.kf {H H' : Hp} (k : Kf H H') : ∀ (ks : List NestedKey) (xs : List V), GAll H ks xs → GAll H' ks xs
  | [], _, h => by cases h; exact .nil
  | key :: ks, _, h => by cases h with | cons h t => exact .cons (GAt.kf k key _ h) (GAll.kf k ks _ t)
end
mutual
theorem GAt.is {P : Program} {w : World} {H : Hp} {h : Heap} (ok : HOk P w H h) : ∀ (key : NestedKey) (v : V) (u : Value), GAt H key v → RelV v u → NestedIs h key u
  | .num i, _, u, g, r => by cases g; obtain ⟨t, rfl⟩ := r; exact .int _ _
  | .tup ks, _, u, g, r => by
    cases g with
    | tup hq a =>
      obtain rfl : u = .ref _ := r
      obtain ⟨_, its, hv, o, h1, h2, n, h3⟩ := hq.ok ok
      exact .tup h1 h2 h3 (by simpa using GAll.is ok ks _ _ a hv)
  | .none, _, _, g, _ => nomatch g
  | .text _, _, _, g, _ => nomatch g
theorem GAll.is {P : Program} {w : World} {H : Hp} {h : Heap} (ok : HOk P w H h) : ∀ (ks : List NestedKey) (xs : List V) (us : List Value), GAll H ks xs → Vals xs us → NestedAll h ks us
  | [], _, _, g, r => by cases g; cases r; exact .nil
  | key :: ks, _, _, g, r => by
    cases g with
    | cons g t =>
      cases r with
      | cons r1 r2 => exact .cons (GAt.is ok key _ _ g r1) (GAll.is ok ks _ _ t r2)
end
/-- a key of a dict: not too deep -/
def GK (H : Hp) (k : NestedKey) (b : Addr) : Prop := GAt H k (.ref b) ∧ k.depth ≤ 8
theorem GK.kf {H H' : Hp} {k : NestedKey} {b : Addr} (g : GK H k b) (k' : Kf H H') : GK H' k b := ⟨GAt.kf k' _ _ g.1, g.2⟩
theorem GK.is {P : Program} {w : World} {H : Hp} {h : Heap} {k : NestedKey} {b : Addr} (ok : HOk P w H h) (g : GK H k b) : (nestedKind P w).is h k b := ⟨GAt.is ok _ _ _ g.1 rfl, g.2⟩
abbrev GE := NestedKey × Addr × V
def GRel (x : GE) (y : NestedKey × Addr × Value) : Prop := y.1 = x.1 ∧ y.2.1 = x.2.1 ∧ RelV x.2.2 y.2.2
def DGφ (P : Program) (w : World) (a : Addr) (xs : List GE) : Heap → Prop := fun h => (a == sysModules) = false ∧ xs.length ≤ sizeLine ∧ ∃ ys : List (NestedKey × Addr × Value), Paired GRel xs ys ∧
  ∃ o es ep, h.get? a = some o ∧ o.ExactDict ∧ o.data = .dict es ep ∧ es.toList = ys.map (entryOfKey (nestedKind P w)) ∧ (ys.map (·.1)).Nodup
def DGO (P : Program) (w : World) (a : Addr) (xs : List GE) : HO := .ext (DGφ P w a xs)
def keysG (xs : List GE) : List NestedKey := xs.map (·.1)
def putG (xs : List GE) (k : NestedKey) (b : Addr) (v : V) : List GE := if k ∈ keysG xs then xs.map (fun x => if x.1 = k then (x.1, x.2.1, v) else x) else xs ++ [(k, b, v)]
def GsAt (H : Hp) (xs : List GE) : Prop := ∀ x ∈ xs, GK H x.1 x.2.1
theorem GsAt.kf {H H' : Hp} {xs : List GE} (g : GsAt H xs) (k : Kf H H') : GsAt H' xs := fun x hx => (g x hx).kf k
theorem ag_some {xs : List GE} {ys : List (NestedKey × Addr × Value)} (r : Paired GRel xs ys) (k : NestedKey) : (atKey ys k).isSome = decide (k ∈ keysG xs) := by
  unfold atKey
  rw [Option.isSome_map]
  induction r with
  | nil => rfl
  | @cons x y xs ys h t ih =>
    obtain ⟨h1, h2, h3⟩ := h
    rw [List.find?_cons, h1]
    unfold keysG at *
    rw [List.map_cons]
    by_cases z : x.1 = k
    · rw [decide_eq_true z, decide_eq_true (show k ∈ x.1 :: xs.map (·.1) from by rw [z]; exact List.mem_cons_self ..)]
      rfl
    · rw [decide_eq_false z]
      show (List.find? _ ys).isSome = _
      rw [ih]
      refine decide_eq_decide.mpr ⟨fun m => List.mem_cons_of_mem _ m, fun m => ?_⟩
      rcases List.mem_cons.mp m with e | e
      · exact absurd e.symm z
      · exact e
theorem relG_put {xs : List GE} {ys : List (NestedKey × Addr × Value)} (r : Paired GRel xs ys) (k : NestedKey) (b : Addr) {v : V} {u : Value} (ru : RelV v u) : Paired GRel (putG xs k b v) (storedH ys k b u) := by
  unfold putG storedH
  have e := ag_some r k
  by_cases z : k ∈ keysG xs
  · rw [if_pos z, if_pos (by rw [e]; exact decide_eq_true z)]
    clear e z
    induction r with
    | nil => exact .nil
    | @cons x y xs ys h t ih =>
      obtain ⟨h1, h2, h3⟩ := h
      rw [List.map_cons, List.map_cons]
      refine .cons ?_ ih
      unfold putAt
      by_cases z : x.1 = k
      · rw [if_pos z, if_pos (by rw [h1, z])]
        exact ⟨h1, h2, ru⟩
      · rw [if_neg z, if_neg (by rw [h1]; exact z)]
        exact ⟨h1, h2, h3⟩
  · rw [if_neg z, if_neg (by rw [e, decide_eq_false z]; exact Bool.false_ne_true)]
    exact r.snoc ⟨rfl, rfl, ru⟩
theorem putG_len (xs : List GE) (k : NestedKey) (b : Addr) (v : V) : (putG xs k b v).length ≤ xs.length + 1 := by
  unfold putG
  split
  · rw [List.length_map]
    omega
  · rw [List.length_append]
    exact Nat.le_refl _
theorem dg_new {P : Program} {w : World} {H : Hp} {h : Heap} {a : Addr} {xs : List GE} (R : DGφ P w a xs h) : ObjOk P w H h a (DGO P w a xs) := by
  have ⟨hd, hl, ys, r, o, es, ep, ho, rest⟩ := R
  refine ⟨R, ⟨o, ho⟩, fun h1 h2 p k => ?_⟩
  obtain ⟨hd, hl, ys, r, o, es, ep, ho, rest⟩ := p
  exact ⟨hd, hl, ys, r, o, es, ep, k o ho, rest⟩
section
variable {X : Cx} {pins : List (Addr × Obj)} {σ : L2.St} {H : Hp} {s : Shared} {a b : Addr} {xs : List GE} {k : NestedKey} {A : Around} {E : Value → Shared → Prop}
theorem dg_get (I : Inv X pins σ H s) (e : H a = some (DGO X.prog X.w a xs)) (ka : GsAt H xs) : (a == sysModules) = false ∧ xs.length ≤ sizeLine ∧ ∃ ys, Paired GRel xs ys ∧ s.heap.DictOfH (nestedKind X.prog X.w) a ys := by
  obtain ⟨hd, hl, ys, r, o, es, ep, ho, hx, hdat, hes, hn⟩ : DGφ X.prog X.w a xs s.heap := (I.hok a _ e).1
  refine ⟨hd, hl, ys, r, o, es, ep, ho, hx, hdat, hes, fun y hy => ?_, hn⟩
  clear hes hn e hl
  induction r with
  | nil => exact absurd hy List.not_mem_nil
  | @cons x z xs ys h t ih =>
    rcases List.mem_cons.mp hy with e | e
    · subst e
      obtain ⟨h1, h2, h3⟩ := h
      rw [h1, h2]
      exact GK.is I.hok (ka x (List.mem_cons_self ..))
    · exact ih (fun x hx => ka x (List.mem_cons_of_mem _ hx)) e
theorem dg_notIn {Q : Value → Shared → Prop} (hu : A.units + 64 < cLine) (I : Inv X pins σ H s) (e : H a = some (DGO X.prog X.w a xs)) (ka : GsAt H xs) (kb : GK H k b) (h : ∀ s', Inv X pins σ H s' → Q (.bool (!decide (k ∈ keysG xs))) s') :
    wpAny (model X.prog X.w) A (compareOp .NotIn (.ref b) (.ref a)) Q E s := by
  obtain ⟨hd, hl, ys, r, dd⟩ := dg_get I e ka
  refine notIn_keyed (knd := nestedKind X.prog X.w) (k := k) (kvs := pairsH ys) (show A.units + 1 + 8 < cLine by omega) (GK.is I.hok kb) hd ⟨ys, dd, rfl⟩ ?_
  rw [valueAt_pairsH, Option.isSome_map, ag_some r k]
  exact h _ (I.tok _)
theorem dg_setItem {Q : Unit → Shared → Prop} {v : V} {u : Value} (hu : A.units + 64 < cLine) (I : Inv X pins σ H s) (e : H a = some (DGO X.prog X.w a xs)) (ka : GsAt H xs) (kb : GK H k b) (hl : xs.length < 100000) (rv : RelV v u)
    (h : ∀ s', Inv X pins σ (upd H a (DGO X.prog X.w a (putG xs k b v))) s' → Q () s') : wpAny (model X.prog X.w) A (setItem (.ref a) (.ref b) u) Q E s := by
  obtain ⟨hd, _, ys, r, dd⟩ := dg_get I e ka
  have hz : ys.length ≤ sizeLine := by rw [← Paired.length r, sizeLine_eq]; omega
  refine wpAny_setItem_heap (hsz := hz) (knd := nestedKind X.prog X.w) (show A.units + 1 + 8 < cLine by omega) (GK.is I.hok kb) dd fun h' dd' hs => h _ ?_
  obtain ⟨q, es, ep, hq, h2, h3, h4, _, h5⟩ := dd'
  refine d_write I (by rw [e]; exact True.intro) hs ⟨q, hq⟩ (dg_new ⟨hd, ?_, _, relG_put r k b rv, q, es, ep, hq, h2, h3, h4, h5⟩)
  have := putG_len xs k b v
  rw [sizeLine_eq]
  omega
end
end Rv
/-! dicts whose keys are tuples: rules, readings, what a dict holds -/
namespace Rv
open PySem PySem.Spec PyProof.Rows L2
def tDNewG (P : Program) (w : World) : TE := fun _ H Q => ∀ p, H p = none → Q (.ref p) (upd H p (DGO P w p []))
def InG (P : Program) (w : World) (x y : V) (H : Hp) (Q : Bool → Prop) : Prop := ∃ a b xs k, x = .ref a ∧ y = .ref b ∧ H a = some (DGO P w a xs) ∧ GsAt H xs ∧ GK H k b ∧ Q (decide (k ∈ keysG xs))
def PtG (P : Program) (w : World) (x y v : V) (H : Hp) (R : Hp → Prop) : Prop := ∃ a b xs k, x = .ref a ∧ y = .ref b ∧ H a = some (DGO P w a xs) ∧ GsAt H xs ∧ GK H k b ∧ xs.length < 100000 ∧ R (upd H a (DGO P w a (putG xs k b v)))
def tNotInG (P : Program) (w : World) (ty td : TE) : TE := fun σ H Q => ty σ H fun y H1 => td σ H1 fun x H2 => InG P w x y H2 fun c => Q (.bl (!c)) H2
def sDPutG (P : Program) (w : World) (td ty tv : TE) : TS := fun D σ H => tv σ H fun v H1 => td σ H1 fun x H2 => ty σ H2 fun y H3 => PtG P w x y v H3 fun H4 => D.nx σ H4
section
variable {X : Cx} {o i e value : Expr} {pos pos' tpos : Pos} {td ty tv : TE} {P : Program} {w : World}
theorem pe_dnewH (hP : X.prog = P) (hw : X.w = w) : PE X (.Dict [] [] pos) (tDNewG P w) := by
  subst hP hw
  refine ⟨fun pins s σ H Q I h => wpAny_Dict_empty ⟨.ref s.heap.objs.size, _, I.laid (a := s.heap.objs.size) (o := DGO X.prog X.w s.heap.objs.size []) (t' := s.toks) (fun _ _ q => Heap.get?_push_of_some _ q) (Nat.le_refl _) (dg_new ?_), rfl, h _ (I.hok.fresh (Nat.le_refl _))⟩⟩
  exact ⟨beq_eq_false_iff_ne.mpr (Ne.symm (Nat.ne_of_lt I.big)), Nat.zero_le _, [], .nil, _, #[], 0, Heap.get?_push_size _ rfl, ⟨rfl, rfl, rfl⟩, rfl, rfl, List.nodup_nil⟩
theorem pc_notinH (hP : X.prog = P) (hw : X.w = w) (hu : X.A.units + 64 < cLine) (hi : PE X i ty) (ho : PE X o td) : PC X .NotIn i o (tNotInG P w ty td) := by
  subst hP hw
  refine ⟨fun pins s σ H Q I h => ?_⟩
  refine thn (hi.run pins s σ H _ I h) fun iv s1 ⟨y, H1, I1, ry, q1⟩ => thn (ho.run pins s1 σ H1 _ I1 q1) fun u s2 ⟨x, H2, I2, rx, a, b, xs, k, ex, ey, ea, ka, kb, q2⟩ => ?_
  subst ex ey
  obtain rfl : u = Value.ref a := rx
  obtain rfl : iv = Value.ref b := ry
  exact dg_notIn hu I2 ea ka kb fun s3 I3 => ⟨.bl _, H2, I3, rfl, q2⟩
theorem ps_dputH (hP : X.prog = P) (hw : X.w = w) (hu : X.A.units + 64 < cLine) (ho : PE X o td) (hi : PE X i ty) (hv : PE X value tv) (hs : swapsWith value (some (.Subscript o i pos')) pos.line X.env = pure false) :
    PS X (.Assign [.Subscript o i pos'] value pos) (sDPutG P w td ty tv) := by
  subst hP hw
  refine ⟨fun pins s σ H D I h => ?_⟩
  refine wpAny_Assign_Subscript (thn (hv.run pins s σ H _ I h) fun r s1 ⟨v, H1, I1, rv, q1⟩ => thn (ho.run pins s1 σ H1 _ I1 q1) fun u s2 ⟨x, H2, I2, rx, q2⟩ => thn (hi.run pins s2 σ H2 _ I2 q2) fun iv s3 ⟨y, H3, I3, ry, a, b, xs, k, ex, ey, ea, ka, kb, hl, q3⟩ => ?_) hs
  subst ex ey
  obtain rfl : u = Value.ref a := rx
  obtain rfl : iv = Value.ref b := ry
  exact dg_setItem hu I3 ea ka kb hl rv fun s4 I4 => ⟨σ, _, I4, q3⟩
end
/-! list(d) -/
/-! readings -/
section
variable {σ : L2.St} {H H' : Hp} {Q : VK} {D : Ends} {P : Program} {w : World} {td ty tv : TE} {d b l : Addr} {xs : List GE} {k : NestedKey} {v : V} {R : Hp → Prop} {o : HO}
theorem rd_dnewH (q : ∀ H2 p, Same H H2 → H p = none → H2 p = some (DGO P w p []) → Q (.ref p) H2) : tDNewG P w σ H Q := fun p np => new_q (R := fun H => Q (.ref p) H) np fun H2 S h => q H2 p S np h
theorem rd_notInH (q : ty σ H fun y H1 => td σ H1 fun x H2 => InG P w x y H2 fun c => Q (.bl (!c)) H2) : tNotInG P w ty td σ H Q := q
theorem rd_dputH (q : tv σ H fun v H1 => td σ H1 fun x H2 => ty σ H2 fun y H3 => PtG P w x y v H3 fun H4 => D.nx σ H4) : sDPutG P w td ty tv D σ H := q
/-- a dict in the heap with these entries, each key once -/
structure Dg (P : Program) (w : World) (H : Hp) (d : Addr) (xs : List GE) : Prop where
  at_ : H d = some (DGO P w d xs)
  ks : GsAt H xs
  nd : (keysG xs).Nodup
theorem Kf.mutG (h : H d = some (DGO P w d xs)) : Kf H (upd H d o) := Kf.mut h (by intro ys z; cases z) (by intro a v z; cases z)
theorem Dg.nil (h : H d = some (DGO P w d [])) : Dg P w H d [] := ⟨h, fun x hx => absurd hx List.not_mem_nil, List.nodup_nil⟩
theorem Dg.same (g : Dg P w H d xs) (S : Same H H') : Dg P w H' d xs := ⟨S _ _ g.at_, g.ks.kf (Kf.same S), g.nd⟩
theorem Dg.mut (g : Dg P w H d xs) (ne : d ≠ l) (k : Kf H (upd H l o)) : Dg P w (upd H l o) d xs := ⟨by rw [upd_ne ne]; exact g.at_, g.ks.kf k, g.nd⟩
theorem rd_InG {Q : Bool → Prop} (g : Dg P w H d xs) (hb : GK H k b) (q : Q (decide (k ∈ keysG xs))) : InG P w (.ref d) (.ref b) H Q := ⟨d, b, xs, k, rfl, rfl, g.at_, g.ks, hb, q⟩
theorem keysG_put (xs : List GE) (k : NestedKey) (b : Addr) (v : V) : keysG (putG xs k b v) = if k ∈ keysG xs then keysG xs else keysG xs ++ [k] := by
  unfold putG
  split
  · unfold keysG
    rw [List.map_map]
    refine List.map_congr_left fun x _ => ?_
    show (if x.1 = k then (x.1, x.2.1, v) else x).1 = x.1
    split <;> rfl
  · unfold keysG
    rw [List.map_append]
    rfl
theorem Dg.put (g : Dg P w H d xs) (hb : GK H k b) : Dg P w (upd H d (DGO P w d (putG xs k b v))) d (putG xs k b v) := by
  have kf : Kf H (upd H d (DGO P w d (putG xs k b v))) := Kf.mutG g.at_
  refine ⟨upd_same, fun x hx => ?_, ?_⟩
  · unfold putG at hx
    split at hx
    · obtain ⟨x0, hx0, rfl⟩ := List.mem_map.mp hx
      have := (g.ks x0 hx0).kf kf
      split <;> exact this
    · rcases List.mem_append.mp hx with y | y
      · exact (g.ks x y).kf kf
      · rw [List.mem_singleton.mp y]
        exact hb.kf kf
  · rw [keysG_put]
    split
    · exact g.nd
    · rename_i z
      exact List.nodup_append.mpr ⟨g.nd, List.nodup_cons.mpr ⟨List.not_mem_nil, List.nodup_nil⟩, fun a ha c hc => by
        rw [List.mem_singleton.mp hc]
        exact fun y => z (y ▸ ha)⟩
theorem rd_PtG (g : Dg P w H d xs) (hb : GK H k b) (hl : xs.length < 100000) (q : ∀ H2, H2 = upd H d (DGO P w d (putG xs k b v)) → Kf H H2 → Dg P w H2 d (putG xs k b v) → R H2) : PtG P w (.ref d) (.ref b) v H R :=
  ⟨d, b, xs, k, rfl, rfl, g.at_, g.ks, hb, hl, q _ rfl (Kf.mutG g.at_) (g.put hb)⟩
end
end Rv
/-! the mathematics of rename pairs: chains, rings, what moves -/
namespace RQ
open RL
def full (l : List Int) : List Int := l.filter fun x => !decide (x = -1)
theorem mem_full {l : List Int} {x : Int} : x ∈ full l ↔ x ∈ l ∧ x ≠ -1 := by
  unfold full
  rw [List.mem_filter]
  simp
theorem inj_of : ∀ (l : List Int), (full l).Nodup → ∀ (i j : Nat) (x : Int), l[i]? = some x → l[j]? = some x → x ≠ -1 → i = j
  | [], _, i, _, _, h, _, _ => by simp at h
  | y :: r, nd, 0, 0, _, _, _, _ => rfl
  | y :: r, nd, 0, j + 1, x, h1, h2, nx => by
    cases h1
    have m : y ∈ full r := mem_full.mpr ⟨List.mem_of_getElem? h2, nx⟩
    unfold full at nd
    rw [List.filter_cons_of_pos (by simpa using nx)] at nd
    exact absurd m (List.nodup_cons.mp nd).1
  | y :: r, nd, i + 1, 0, x, h1, h2, nx => by
    cases h2
    have m : y ∈ full r := mem_full.mpr ⟨List.mem_of_getElem? h1, nx⟩
    unfold full at nd
    rw [List.filter_cons_of_pos (by simpa using nx)] at nd
    exact absurd m (List.nodup_cons.mp nd).1
  | y :: r, nd, i + 1, j + 1, x, h1, h2, nx => by
    have nd2 : (full r).Nodup := by
      unfold full at nd ⊢
      rw [List.filter_cons] at nd
      split at nd
      · exact (List.nodup_cons.mp nd).2
      · exact nd
    rw [inj_of r nd2 i j x h1 h2 nx]
structure Ren (es fs : List Int) : Prop where
  pm : es.Perm fs
  nd : (full es).Nodup
section
variable {es fs : List Int}
theorem Ren.len (R : Ren es fs) : es.length = fs.length := R.pm.length_eq
theorem Ren.swap (R : Ren es fs) : Ren fs es := ⟨R.pm.symm, (R.pm.filter _).nodup_iff.mp R.nd⟩
theorem get_at {l : List Int} {i : Nat} (h : i < l.length) : l[i]? = some (l.getD i 0) := by
  rw [List.getD_eq_getElem?_getD, List.getElem?_eq_getElem h]; rfl
theorem mem_at {l : List Int} {i : Nat} (h : i < l.length) : l.getD i 0 ∈ l := List.mem_of_getElem? (get_at h)
theorem at_idx {l : List Int} {x : Int} (h : x ∈ l) : l.idxOf x < l.length ∧ l.getD (l.idxOf x) 0 = x := by
  have hl := List.idxOf_lt_length_iff.mpr h
  refine ⟨hl, ?_⟩
  rw [List.getD_eq_getElem?_getD, List.getElem?_eq_getElem hl, List.getElem_idxOf hl]; rfl
theorem Ren.inj (R : Ren es fs) {i j : Nat} (hi : i < es.length) (hj : j < es.length) (e : es.getD i 0 = es.getD j 0) (n : es.getD i 0 ≠ -1) : i = j :=
  inj_of es R.nd i j _ (get_at hi) (by rw [e]; exact get_at hj) n
theorem Ren.injF (R : Ren es fs) {i j : Nat} (hi : i < es.length) (hj : j < es.length) (e : fs.getD i 0 = fs.getD j 0) (n : fs.getD i 0 ≠ -1) : i = j :=
  R.swap.inj (by rw [← R.len]; exact hi) (by rw [← R.len]; exact hj) e n
/-- where the value that lies there after lies before -/
def G (es fs : List Int) (b : Nat) : Nat := if fs.getD b 0 = -1 then b else es.idxOf (fs.getD b 0)
theorem Ren.to (R : Ren es fs) {b : Nat} (hb : b < es.length) (n : fs.getD b 0 ≠ -1) : G es fs b < es.length ∧ es.getD (G es fs b) 0 = fs.getD b 0 := by
  unfold G
  rw [if_neg n]
  exact at_idx (R.pm.mem_iff.mpr (mem_at (by rw [← R.len]; exact hb)))
theorem Ren.lt (R : Ren es fs) : ∀ b, b < es.length → G es fs b < es.length := fun b hb => by
  by_cases n : fs.getD b 0 = -1
  · unfold G; rw [if_pos n]; exact hb
  · exact (R.to hb n).1
structure Ar (es fs : List Int) (a b : Nat) : Prop where
  l1 : a < es.length
  l2 : b < es.length
  ne : a ≠ b
  fu : fs.getD a 0 ≠ -1
  eq : fs.getD a 0 = es.getD b 0
theorem Ar.left (R : Ren es fs) {a b c : Nat} (h : Ar es fs a b) (k : Ar es fs c b) : a = c := R.injF h.l1 k.l1 (h.eq.trans k.eq.symm) h.fu
theorem Ar.right (R : Ren es fs) {a b : Nat} (h : Ar es fs a b) : G es fs a = b := by
  obtain ⟨k1, k2⟩ := R.to h.l1 h.fu
  exact R.inj k1 h.l2 (k2.trans h.eq) (by rw [k2]; exact h.fu)
theorem Ren.ar (R : Ren es fs) {a : Nat} (ha : a < es.length) (n : fs.getD a 0 ≠ -1) (ne : G es fs a ≠ a) : Ar es fs a (G es fs a) := ⟨ha, (R.to ha n).1, fun e => ne e.symm, n, (R.to ha n).2.symm⟩
theorem Ren.ar2 (R : Ren es fs) {a : Nat} (ha : a < es.length) (ne : G es fs a ≠ a) : Ar es fs a (G es fs a) := R.ar ha (fun n => ne (by unfold G; rw [if_pos n])) ne
/-- a way: each step is an arrow -/
theorem way_ar (R : Ren es fs) {b : Nat} {p : List Nat} (P : Pth (G es fs) es.length b p) {i x y : Nat} (h1 : p[i]? = some x) (h2 : p[i + 1]? = some y) : Ar es fs x y := by
  have e := P.st i x y h1 h2
  have ne : x ≠ y := fun z => by
    rw [← z] at h2
    have := nd_inj P.nd h1 h2
    omega
  rw [e] at ne ⊢
  exact R.ar2 (P.lt x (List.mem_of_getElem? h1)) ne.symm
def Fo (es fs : List Int) (b : Nat) : List Nat := F (G es fs) es.length b
theorem fo_p (R : Ren es fs) {b : Nat} (hb : b < es.length) : Pth (G es fs) es.length b (Fo es fs b) ∧ G es fs ((Fo es fs b).getLastD 0) ∈ Fo es fs b := F_end R.lt hb
theorem fo_closed (R : Ren es fs) {b : Nat} (hb : b < es.length) {x : Nat} (hx : x ∈ Fo es fs b) : G es fs x ∈ Fo es fs b := by
  obtain ⟨P, e⟩ := fo_p R hb
  obtain ⟨i, hi⟩ := List.getElem?_of_mem hx
  have li := (List.getElem?_eq_some_iff.mp hi).1
  by_cases z : i + 1 < (Fo es fs b).length
  · have e2 : (Fo es fs b)[i + 1]? = some (Fo es fs b)[i + 1] := List.getElem?_eq_getElem z
    rw [← P.st i x _ hi e2]
    exact List.getElem_mem z
  · have e2 := last_at P.ne
    rw [show (Fo es fs b).length - 1 = i by omega, hi] at e2
    rw [Option.some.inj e2]
    exact e
/-- how a way ends -/
theorem fo_end (R : Ren es fs) {b : Nat} (hb : b < es.length) : fs.getD ((Fo es fs b).getLastD 0) 0 = -1 ∨ (Fo es fs b = [b] ∧ es.getD b 0 = fs.getD b 0 ∧ fs.getD b 0 ≠ -1) ∨
    (1 < (Fo es fs b).length ∧ G es fs ((Fo es fs b).getLastD 0) = b ∧ fs.getD ((Fo es fs b).getLastD 0) 0 ≠ -1) := by
  obtain ⟨P, e⟩ := fo_p R hb
  have ll := P.lt _ (last_mem P.ne)
  by_cases n : fs.getD ((Fo es fs b).getLastD 0) 0 = -1
  · exact .inl n
  · have pl : 0 < (Fo es fs b).length := List.length_pos_iff.mpr P.ne
    have la := last_at P.ne
    obtain ⟨t1, t2⟩ := R.to ll n
    by_cases z : G es fs ((Fo es fs b).getLastD 0) = (Fo es fs b).getLastD 0
    · rw [z] at t2
      by_cases one : (Fo es fs b).length = 1
      · obtain ⟨c, hc⟩ := List.length_eq_one_iff.mp one
        have h0 := P.hd
        rw [hc] at h0 t2 n
        cases h0
        exact .inr (.inl ⟨hc, t2, n⟩)
      · have h1 : (Fo es fs b)[(Fo es fs b).length - 2]? = some (Fo es fs b)[(Fo es fs b).length - 2] := List.getElem?_eq_getElem (by omega)
        have A := way_ar R P h1 (by rw [show (Fo es fs b).length - 2 + 1 = (Fo es fs b).length - 1 by omega]; exact la)
        exact absurd (R.injF A.l1 A.l2 (A.eq.trans t2) A.fu) A.ne
    · have A := R.ar2 ll z
      obtain ⟨i, hi⟩ := List.getElem?_of_mem e
      have li := (List.getElem?_eq_some_iff.mp hi).1
      cases i with
      | zero =>
        have h0 := P.hd
        rw [hi] at h0
        have h1 := Option.some.inj h0
        refine .inr (.inr ⟨?_, h1, n⟩)
        by_cases one : (Fo es fs b).length = 1
        · rw [one] at la
          rw [hi] at la
          exact absurd (Option.some.inj la) z
        · omega
      | succ i =>
        have h1 : (Fo es fs b)[i]? = some (Fo es fs b)[i] := List.getElem?_eq_getElem (by omega)
        have B := way_ar R P h1 hi
        have e2 := B.left R A
        rw [e2] at h1
        have := nd_inj P.nd h1 la
        omega
def Ch (es fs : List Int) (b : Nat) : Prop := es.getD b 0 = -1 ∧ fs.getD b 0 ≠ -1
instance : Decidable (Ch es fs b) := by unfold Ch; exact inferInstance
theorem ch_end (R : Ren es fs) {b : Nat} (hb : b < es.length) (c : Ch es fs b) : fs.getD ((Fo es fs b).getLastD 0) 0 = -1 ∧ 1 < (Fo es fs b).length := by
  obtain ⟨P, _⟩ := fo_p R hb
  have pl : 0 < (Fo es fs b).length := List.length_pos_iff.mpr P.ne
  rcases fo_end R hb with h | ⟨_, h, _⟩ | ⟨_, h, n⟩
  · refine ⟨h, ?_⟩
    by_cases one : (Fo es fs b).length = 1
    · obtain ⟨x, hx⟩ := List.length_eq_one_iff.mp one
      have h0 := P.hd
      rw [hx] at h0 h
      cases h0
      exact absurd h c.2
    · omega
  · rw [c.1] at h
    exact absurd h.symm c.2
  · have := (R.to (P.lt _ (last_mem P.ne)) n).2
    rw [h, c.1] at this
    exact absurd this.symm n
theorem rg_end (R : Ren es fs) {b : Nat} (hb : b < es.length) (r : IsR (G es fs) (Fo es fs b)) : G es fs ((Fo es fs b).getLastD 0) = b ∧ fs.getD ((Fo es fs b).getLastD 0) 0 ≠ -1 ∧ Ar es fs ((Fo es fs b).getLastD 0) b := by
  obtain ⟨P, _⟩ := fo_p R hb
  have e := r.2.1
  rw [P.headD] at e
  have ne : (Fo es fs b).getLastD 0 ≠ b := fun z => by
    have la := last_at P.ne
    rw [z] at la
    have := nd_inj P.nd P.hd la
    have := r.1
    omega
  have A := R.ar2 (P.lt _ (last_mem P.ne)) (by rw [e]; exact ne.symm)
  rw [e] at A
  exact ⟨e, A.fu, A⟩
/-- closed under both directions -/
def Cl (es fs : List Int) (p : List Nat) : Prop := ∀ x y, Ar es fs x y → (x ∈ p ↔ y ∈ p)
theorem cl_of (R : Ren es fs) {b : Nat} (hb : b < es.length) (h : es.getD b 0 = -1 ∨ Ar es fs ((Fo es fs b).getLastD 0) b) : Cl es fs (Fo es fs b) := fun x y A => by
  obtain ⟨P, _⟩ := fo_p R hb
  refine ⟨fun hx => by rw [← A.right R]; exact fo_closed R hb hx, fun hy => ?_⟩
  obtain ⟨i, hi⟩ := List.getElem?_of_mem hy
  have li := (List.getElem?_eq_some_iff.mp hi).1
  cases i with
  | zero =>
    have h0 := P.hd
    rw [hi] at h0
    have e := Option.some.inj h0
    rcases h with h | h
    · have := A.eq
      rw [e, h] at this
      exact absurd this A.fu
    · rw [e] at A
      rw [A.left R h]
      exact last_mem P.ne
  | succ i =>
    have h1 : (Fo es fs b)[i]? = some (Fo es fs b)[i] := List.getElem?_eq_getElem (by omega)
    rw [A.left R (way_ar R P h1 hi)]
    exact List.getElem_mem _
theorem cl_ch (R : Ren es fs) {b : Nat} (hb : b < es.length) (c : Ch es fs b) : Cl es fs (Fo es fs b) := cl_of R hb (.inl c.1)
theorem cl_rg (R : Ren es fs) {b : Nat} (hb : b < es.length) (r : IsR (G es fs) (Fo es fs b)) : Cl es fs (Fo es fs b) := cl_of R hb (.inr (rg_end R hb r).2.2)
/-- a way lies within what is closed, or beside it -/
theorem conn {p S : List Nat} (st : ∀ i x y, p[i]? = some x → p[i + 1]? = some y → (x ∈ S ↔ y ∈ S)) {x z : Nat} (hx : x ∈ p) (xs : x ∈ S) (hz : z ∈ p) : z ∈ S := by
  have all : ∀ (j : Nat) (u v : Nat), p[0]? = some u → p[j]? = some v → (u ∈ S ↔ v ∈ S) := by
    intro j
    induction j with
    | zero => intro u v h1 h2; rw [h1] at h2; rw [Option.some.inj h2]
    | succ j ih =>
      intro u v h1 h2
      have lj := (List.getElem?_eq_some_iff.mp h2).1
      have e : p[j]? = some p[j] := List.getElem?_eq_getElem (by omega)
      exact (ih u _ h1 e).trans (st j _ v e h2)
  obtain ⟨i, hi⟩ := List.getElem?_of_mem hx
  obtain ⟨k, hk⟩ := List.getElem?_of_mem hz
  have l0 := (List.getElem?_eq_some_iff.mp hi).1
  have e0 : p[0]? = some p[0] := List.getElem?_eq_getElem (by omega)
  exact (all k _ z e0 hk).mp ((all i _ x e0 hi).mpr xs)
theorem conn_fo (R : Ren es fs) {b : Nat} (hb : b < es.length) {S : List Nat} (c : Cl es fs S) {x z : Nat} (hx : x ∈ Fo es fs b) (xs : x ∈ S) (hz : z ∈ Fo es fs b) : z ∈ S :=
  conn (fun i u v h1 h2 => c u v (way_ar R (fo_p R hb).1 h1 h2)) hx xs hz
/-- the heads -/
def starts (es fs : List Int) (n : Nat) : List Nat := (List.range n).filter fun b => decide (Ch es fs b)
def tops (es fs : List Int) (n : Nat) : List Nat := (List.range n).filter fun b => decide (IsR (G es fs) (Fo es fs b))
def heads (es fs : List Int) : List Nat := starts es fs es.length ++ tops es fs es.length
theorem mem_starts {n b : Nat} : b ∈ starts es fs n ↔ b < n ∧ Ch es fs b := by unfold starts; rw [List.mem_filter, List.mem_range, decide_eq_true_eq]
theorem mem_tops {n b : Nat} : b ∈ tops es fs n ↔ b < n ∧ IsR (G es fs) (Fo es fs b) := by unfold tops; rw [List.mem_filter, List.mem_range, decide_eq_true_eq]
/-- no head is led to, or the head is the least and led to -/
theorem head_kind (R : Ren es fs) {b : Nat} (h : b ∈ heads es fs) : b < es.length ∧ Cl es fs (Fo es fs b) ∧ 1 < (Fo es fs b).length ∧ (Ch es fs b ∨ IsR (G es fs) (Fo es fs b)) := by
  rcases List.mem_append.mp h with h | h
  · obtain ⟨l, c⟩ := mem_starts.mp h
    exact ⟨l, cl_ch R l c, (ch_end R l c).2, .inl c⟩
  · obtain ⟨l, r⟩ := mem_tops.mp h
    exact ⟨l, cl_rg R l r, r.1, .inr r⟩
theorem led_in (R : Ren es fs) {b : Nat} (hb : b < es.length) (r : IsR (G es fs) (Fo es fs b)) {x : Nat} (hx : x ∈ Fo es fs b) : ∃ a, Ar es fs a x := by
  obtain ⟨P, _⟩ := fo_p R hb
  obtain ⟨i, hi⟩ := List.getElem?_of_mem hx
  have li := (List.getElem?_eq_some_iff.mp hi).1
  cases i with
  | zero =>
    have h0 := P.hd
    rw [hi] at h0
    rw [Option.some.inj h0]
    exact ⟨_, (rg_end R hb r).2.2⟩
  | succ i => exact ⟨_, way_ar R P (List.getElem?_eq_getElem (by omega)) hi⟩
theorem same_head (R : Ren es fs) {b c x : Nat} (hb : b ∈ heads es fs) (hc : c ∈ heads es fs) (xb : x ∈ Fo es fs b) (xc : x ∈ Fo es fs c) : b = c := by
  obtain ⟨lb, cb, _, kb⟩ := head_kind R hb
  obtain ⟨lc, cc, _, kc⟩ := head_kind R hc
  have Pb := (fo_p R lb).1
  have Pc := (fo_p R lc).1
  have b0 : b ∈ Fo es fs b := List.mem_of_getElem? Pb.hd
  have c0 : c ∈ Fo es fs c := List.mem_of_getElem? Pc.hd
  have bc : b ∈ Fo es fs c := conn_fo R lb cc xb xc b0
  have cb2 : c ∈ Fo es fs b := conn_fo R lc cb xc xb c0
  have no : ∀ {u}, Ch es fs u → ∀ a, ¬ Ar es fs a u := fun k a A => by
    have := A.eq
    rw [k.1] at this
    exact A.fu this
  rcases kb with kb | kb
  · rcases kc with kc | kc
    · obtain ⟨i, hi⟩ := List.getElem?_of_mem bc
      have li := (List.getElem?_eq_some_iff.mp hi).1
      cases i with
      | zero =>
        have h0 := Pc.hd
        rw [hi] at h0
        exact Option.some.inj h0
      | succ i => exact absurd (way_ar R Pc (List.getElem?_eq_getElem (show i < (Fo es fs c).length by omega)) hi) (no kb _)
    · obtain ⟨a, A⟩ := led_in R lc kc bc
      exact absurd A (no kb a)
  · rcases kc with kc | kc
    · obtain ⟨a, A⟩ := led_in R lb kb cb2
      exact absurd A (no kc a)
    · have h1 := kb.2.2 c cb2
      have h2 := kc.2.2 b bc
      rw [Pb.headD] at h1
      rw [Pc.headD] at h2
      omega
theorem pw_range (n : Nat) (p : Nat → Bool) : ((List.range n).filter p).Pairwise (· < ·) := (List.pairwise_lt_range).filter _
theorem nd_range (n : Nat) (p : Nat → Bool) : ((List.range n).filter p).Nodup := (pw_range n p).imp fun h e => by omega
/-! what moves -/
def mvA (es fs : List Int) (n : Nat) : List Int := ((List.range n).filter fun b => !decide (fs.getD b 0 = es.getD b 0) && !decide (fs.getD b 0 = -1)).map (fs.getD · 0)
def mvB (es fs : List Int) (n : Nat) : List Int := ((List.range n).filter fun b => !decide (es.getD b 0 = -1) && !decide (es.idxOf (es.getD b 0) = fs.idxOf (es.getD b 0))).map (es.getD · 0)
theorem nd_map {l : List Nat} (nd : l.Nodup) {f : Nat → Int} (h : ∀ a ∈ l, ∀ b ∈ l, f a = f b → a = b) : (l.map f).Nodup := by
  unfold List.Nodup
  rw [List.pairwise_map]
  exact List.Pairwise.imp_of_mem (R := (· ≠ ·)) (fun {a b} ha hb ne e => ne (h a ha b hb e)) nd
theorem mv_perm (R : Ren es fs) : (mvA es fs es.length).Perm (mvB es fs es.length) := by
  refine (List.perm_ext_iff_of_nodup (nd_map (nd_range _ _) fun a ha b hb e => ?_) (nd_map (nd_range _ _) fun a ha b hb e => ?_)).mpr fun v => ?_
  · obtain ⟨ha1, ha2⟩ := List.mem_filter.mp ha
    obtain ⟨hb1, _⟩ := List.mem_filter.mp hb
    simp only [Bool.and_eq_true, Bool.not_eq_true', decide_eq_false_iff_not] at ha2
    exact R.injF (List.mem_range.mp ha1) (List.mem_range.mp hb1) e ha2.2
  · obtain ⟨ha1, ha2⟩ := List.mem_filter.mp ha
    obtain ⟨hb1, _⟩ := List.mem_filter.mp hb
    simp only [Bool.and_eq_true, Bool.not_eq_true', decide_eq_false_iff_not] at ha2
    exact R.inj (List.mem_range.mp ha1) (List.mem_range.mp hb1) e ha2.1
  · constructor
    · intro h
      obtain ⟨b, hb, rfl⟩ := List.mem_map.mp h
      obtain ⟨h1, h2⟩ := List.mem_filter.mp hb
      have lb := List.mem_range.mp h1
      simp only [Bool.and_eq_true, Bool.not_eq_true', decide_eq_false_iff_not] at h2
      have lf : b < fs.length := by rw [← R.len]; exact lb
      have me : fs.getD b 0 ∈ es := R.pm.mem_iff.mpr (mem_at lf)
      obtain ⟨i1, i2⟩ := at_idx me
      obtain ⟨j1, j2⟩ := at_idx (mem_at lf)
      refine List.mem_map.mpr ⟨es.idxOf (fs.getD b 0), List.mem_filter.mpr ⟨List.mem_range.mpr i1, ?_⟩, i2⟩
      rw [i2]
      simp only [Bool.and_eq_true, Bool.not_eq_true', decide_eq_false_iff_not]
      refine ⟨h2.2, fun e => h2.1 ?_⟩
      have jb : fs.idxOf (fs.getD b 0) = b := R.injF (by rw [R.len]; exact j1) lb j2 (by rw [j2]; exact h2.2)
      rw [e, jb] at i2
      exact i2.symm
    · intro h
      obtain ⟨b, hb, rfl⟩ := List.mem_map.mp h
      obtain ⟨h1, h2⟩ := List.mem_filter.mp hb
      have lb := List.mem_range.mp h1
      simp only [Bool.and_eq_true, Bool.not_eq_true', decide_eq_false_iff_not] at h2
      have mf : es.getD b 0 ∈ fs := R.pm.mem_iff.mp (mem_at lb)
      obtain ⟨i1, i2⟩ := at_idx mf
      obtain ⟨j1, j2⟩ := at_idx (mem_at lb)
      refine List.mem_map.mpr ⟨fs.idxOf (es.getD b 0), List.mem_filter.mpr ⟨List.mem_range.mpr (by rw [R.len]; exact i1), ?_⟩, i2⟩
      rw [i2]
      simp only [Bool.and_eq_true, Bool.not_eq_true', decide_eq_false_iff_not]
      refine ⟨fun e => h2.2 ?_, h2.1⟩
      exact R.inj j1 (by rw [R.len]; exact i1) (j2.trans e) (by rw [j2]; exact h2.1)
/-! sorting -/
theorem srt_uniq {a b : List Int} (pm : a.Perm b) (ha : a.Pairwise (· ≤ ·)) (hb : b.Pairwise (· ≤ ·)) : a = b := List.Perm.eq_of_pairwise (fun x y _ _ h1 h2 => by omega) ha hb pm
end
end RQ
/-! x is not None, as a value -/
namespace Rv
open PySem PySem.Spec PyProof.Rows L2
def rNotNQ : R2 := fun x y H Q => y = .non ∧ Q (.bl (!decide (x = .non))) H
theorem op_notNQ {X : Cx} : OpR X (compareOp .IsNot) rNotNQ := op_notN
theorem rd_notNQ {H : Hp} {Q : VK} {v : V} (q : Q (.bl (!decide (v = .non))) H) : rNotNQ v .non H Q := ⟨rfl, q⟩
end Rv
/-! for k38: tuples whose object may be known or not; a box with one cell; the size of a set -/
namespace Rv
open PySem PySem.Spec PyProof.Rows L2
def TG (H : Hp) (a : Addr) (es : List Int) : Prop := H a = some (.tup (es.map V.int)) ∨ GT H a es
section
variable {H H' : Hp} {a b p : Addr} {es : List Int} {B : Box} {xs : List V} {o : HO} {K : PySem.W.Frag} {Q : VK}
theorem TG.of (h : H a = some (.tup (es.map V.int))) : TG H a es := .inl h
theorem TG.sq (h : TG H a es) : SqT K H a (es.map V.int) := h.elim SqT.of GT.sq
theorem TG.keep (h : TG H a es) (k : ∀ o, H a = some o → H' a = some o) : TG H' a es := h.imp (k _) fun ⟨o, e, d⟩ => ⟨o, k _ e, d⟩
theorem TG.same (h : TG H a es) (S : Same H H') : TG H' a es := h.keep fun o e => S _ _ e
theorem TG.nl (h : TG H a es) : H a ≠ some (.lst xs) := fun e => by
  rcases h with h | ⟨o, h, _⟩ <;> rw [e] at h <;> cases h
theorem TG.nem (h : TG H a es) (i : B.I H) : a ∉ B.m := fun k => by
  obtain ⟨ys, e⟩ := B.live _ i a (B.sub _ k)
  exact h.nl e
theorem TG.wg (h : TG H a es) (w : Wg B H H') : TG H' a es := h.keep fun o e => w.keep a o (h.nem w.i0) e
theorem GT.wg (h : GT H a es) (w : Wg B H H') : GT H' a es := by
  obtain ⟨o, e, d⟩ := id h
  exact ⟨o, w.keep a _ (TG.nem (.inr h) w.i0) e, d⟩
theorem TG.dp (h : TG H a es) : Dp K H (.ref a) (.tuple (es.map PyData.int)) := .tup h.sq (dp_ints es)
/-! readings -/
theorem rd_ixO {v : V} {i : Int} (g : TG H p es) (e : atI (es.map V.int) i = some v) (q : Q v H) : rIxT K (.ref p) (.int i) H Q := ⟨p, _, i, v, rfl, rfl, g.sq, e, q⟩
theorem rd_lenO (g : TG H p es) (q : Q (.int (es.length : Nat)) H) : rLenQ K [.ref p] H Q := ⟨p, _, rfl, .inr g.sq, by rw [List.length_map]; exact q⟩
theorem rd_inO {x : V} (h : TG H p es) (fx : flatV x = true) (q : Q (.bl (inV x (es.map V.int))) H) : rIn K false x (.ref p) H Q := ⟨p, _, rfl, .inr h.sq, fx, ints_flat es, q⟩
theorem rd_ninO {x : V} (h : TG H p es) (fx : flatV x = true) (q : Q (.bl (!inV x (es.map V.int))) H) : rIn K true x (.ref p) H Q := ⟨p, _, rfl, .inr h.sq, fx, ints_flat es, q⟩
theorem rd_slO {lo hi : Option Int} (h : TG H p es) (no : ¬ (HT.sIx es.length 0 lo = 0 ∧ HT.sIx es.length es.length hi = es.length)) (q : NewL (.tup (cutV (es.map V.int) lo hi)) Q H) : rSlT K (.ref p) lo hi H Q := ⟨p, _, rfl, h.sq, by rw [List.length_map]; exact no, q⟩
theorem rd_lstO (h : TG H p es) (q : NewL (.lst (es.map V.int)) Q H) : rLstQ K [.ref p] H Q := ⟨p, _, rfl, .inr h.sq, q⟩
theorem rd_ItO {R : It → Hp → Prop} (h : TG H p es) (q : R (Itt K p) H) : ItT K R (.ref p) H := ⟨p, rfl, ⟨_, h.sq⟩, q⟩
theorem rd_ZpO {R : It → Hp → Prop} {fs : List Int} (h : TG H a es) (h2 : TG H b fs) (q : R (RZ.ItzT K a b) H) : ZpA K R [.ref a, .ref b] H := ⟨a, b, _, _, rfl, .inr ⟨h.sq, h2.sq, q⟩⟩
theorem rd_cat3O {fs : List Int} (h : TG H a es) (h2 : TG H b fs) (l : es.length + fs.length ≤ 1000) (q : ∀ H2 p, Same H H2 → TG H2 p (es ++ fs) → Q (.ref p) H2) : rCat3 K (.ref a) (.ref b) H Q :=
  ⟨a, b, _, _, rfl, rfl, h.sq, h2.sq, Nat.le_of_lt (small1000 (by rw [List.length_map, List.length_map]; omega)),
    fun e => q H b (Same.refl _) (by have : es = [] := List.map_eq_nil_iff.mp e; rw [this]; exact h2),
    fun _ e => q H a (Same.refl _) (by have : fs = [] := List.map_eq_nil_iff.mp e; rw [this, List.append_nil]; exact h),
    fun _ _ p np => q _ p (same_new (Same.refl _) np) (.of (by rw [upd_same, List.map_append]))⟩
end
/-! isinstance, enumerate, sorted of a tuple of either make -/
def rIsO (K : PySem.W.Frag) : List V → Hp → VK → Prop := fun xs H Q => rIsi K xs H Q ∨ rIsG xs H Q
theorem call_isO {X : Cx} : CallR X (.builtin "isinstance") (rIsO X.K) := fun pins s σ H xs us Q I r h => h.elim (call_isi pins s σ H xs us Q I r) (call_isG pins s σ H xs us Q I r)
def EnO (R : It → Hp → Prop) (vs : List V) (H1 : Hp) : Prop := ∃ (a : Addr) (es : List Int), vs = [.ref a] ∧ TG H1 a es ∧ ∀ G : Hp → Prop, (∀ H2, Same H1 H2 → G H2) → R (Jen (es.map V.int).length G (fun i => (es.map V.int)[i]?)) H1
def iEnO (ta : TA) : TI := fun σ H R => ta σ H fun vs H1 => EnO R vs H1
theorem pi_enO {X : Cx} {e : Expr} {ta : TA} {p pos tpos : Pos} {elts : List Expr} {kk : Nat} (hg : Gl X "enumerate") (hm : X.mg "enumerate" = none) (ha : PA X [e] ta) (hs : starEach [e] X.env = [(false, eval e X.env)] := by rfl) :
    PI X (.Tuple elts kk tpos) (.Call (.Name "enumerate" p) [e] [] pos) (iEnO ta) := by
  refine ⟨fun pins s σ H R I h => Call_ (ld_blt I hg hm boot_enumerate (PyProof.Rows.callWith_type1 (thn (ha.run pos pins s σ H _ I h) fun us s1 q0 => ?_) hs rfl))⟩
  obtain ⟨vs, H1, I1, r1, a, es, rfl, hT, q⟩ := q0
  cases r1 with
  | cons r rr =>
    cases rr
    cases r
    obtain ⟨its, rv, hI, _⟩ := I1.tuple (show SqT X.K H1 a (es.map V.int) from hT.sq)
    refine enum1 (begins_tuple a its.toArray) hI fun h' he ho hk => wpAny_pyIter_enum he ?_
    have I2 : Inv X pins σ H1 { s1 with heap := h' } := I1.kept (t' := s1.toks) hk
    have fin : ∀ b ∈ [s1.heap.objs.size + 1, s1.heap.objs.size], FpOk X pins H1 b := fun b hb => by
      have le : s1.heap.objs.size ≤ b := by
        rcases List.mem_cons.mp hb with z | z
        · rw [z]; exact Nat.le_succ _
        · rw [show b = s1.heap.objs.size by simpa using z]; exact Nat.le_refl _
      exact I1.fpOk le (I1.hok.fresh le)
    rcases hT with hT | ⟨o, hT, _⟩
    · exact ⟨s1.heap.objs.size + 1, [s1.heap.objs.size + 1, s1.heap.objs.size], _, _, H1, rfl, I2, turn_jen (feed_tup s1.heap.objs.size a (es.map V.int)) (Nat.succ_ne_self _), ⟨⟨.none, he⟩, ⟨_, ho, rfl, rfl⟩⟩, fin, q _ fun H2 S => S _ _ hT⟩
    · exact ⟨s1.heap.objs.size + 1, [s1.heap.objs.size + 1, s1.heap.objs.size], _, _, H1, rfl, I2, turn_jen (feed_tupG s1.heap.objs.size a o (es.map V.int)) (Nat.succ_ne_self _), ⟨⟨.none, he⟩, ⟨_, ho, rfl, rfl⟩⟩, fin, q _ fun H2 S => S _ _ hT⟩
def rSortO (K : PySem.W.Frag) : List V → Hp → VK → Prop := fun vs H Q => ∃ (a : Addr) (ns : List Int), vs = [V.ref a] ∧ SqT K H a (ns.map V.int) ∧ ns.length < 64 ∧
  ∀ (ms : List Int) (p : Addr), ms.Perm ns → ms.Pairwise (· ≤ ·) → H p = none → Q (.ref p) (upd H p (.lst (ms.map V.int)))
theorem cr_sortO {X : Cx} : CallR X (.builtin "sorted") (rSortO X.K) := by
  intro pins s σ H vs us Q I r h
  obtain ⟨a, ns, rfl, hs, few, q⟩ := h
  obtain ⟨its, rv, it, _⟩ := I.tuple hs
  rw [Vals.ref1 r]
  have num := rv.ints
  refine sortT it num (by rw [num.length]; exact few) fun out ms b1 b2 b3 => ?_
  obtain ⟨ep, at2⟩ := sortedAll_at s.heap its out
  have ln : (ms.map V.int).length ≤ sizeLine := by
    rw [List.length_map, b2.length_eq]
    exact small64 few
  exact ⟨.ref _, upd H (s.heap.objs.size + 1) (.lst (ms.map V.int)), I.laid (t' := s.toks) (fun _ _ => sortedAll_old) (Nat.le_succ _) ⟨ln, out.toList, ep, vals_of_ints b1, at2⟩, rfl, q ms _ b2 b3 (I.hok.fresh (Nat.le_succ _))⟩
/-- len(s), s a set of whole numbers -/
def rLenSO (w : World) : List V → Hp → VK → Prop := fun xs H Q => ∃ (a : Addr) (ns : List Int) (n : Nat), xs = [.ref a] ∧ H a = some (SetO w a (fun j => decide (j ∈ ns)) n) ∧ ((∃ ks : List Int, ks.Nodup ∧ (∀ k, k ∈ ks ↔ k ∈ ns) ∧ ks.length = n) → Q (.int n) H)
theorem call_lenSO {X : Cx} : CallR X (.builtin "len") (rLenSO X.w) := by
  intro pins s σ H xs us Q I r h
  obtain ⟨a, ns, n, rfl, ha, q⟩ := h
  rw [Vals.ref1 r]
  obtain ⟨o, es, ep, t, ho, hex, hd, _, nd, mem, lt, hf, hn, _⟩ := setO_get I ha
  refine call_len_set ho hex hd hf (by unfold scanBound at lt; omega) ⟨.int n, H, I.tok _, ⟨_, by rw [hn]⟩, q ⟨_, nd, fun k => (mem k).symm.trans decide_eq_true_iff, by rw [List.length_map, Array.length_toList, hn]⟩⟩
section
variable {H : Hp} {K : PySem.W.Frag} {w : World} {Q : VK} {p a : Addr} {es ns : List Int} {n : Nat} {xs : List V}
theorem rd_isO (g : TG H p es) (q : Q (.bl true) H) : rIsO K [.ref p, .ty "tuple"] H Q := g.elim (fun h => .inl (rd_isiT h kit_tt q)) fun h => .inr (rd_isG h q)
theorem rd_isOL (h : H p = some (.lst xs)) (q : Q (.bl false) H) : rIsO K [.ref p, .ty "tuple"] H Q := .inl (rd_isiL h kit_lt q)
theorem rd_iEnO {ta : TA} {σ : L2.St} {R : It → Hp → Prop} (q : ta σ H fun vs H1 => EnO R vs H1) : iEnO ta σ H R := q
theorem rd_EnO {R : It → Hp → Prop} (g : TG H p es) (q : ∀ G : Hp → Prop, (∀ H2, Same H H2 → G H2) → R (Jen (es.map V.int).length G (fun i => (es.map V.int)[i]?)) H) : EnO R [.ref p] H := ⟨p, es, rfl, g, q⟩
theorem rd_sortO (h : TG H a es) (few : es.length < 64) (q : ∀ (H2 : Hp) (p : Addr) (ms : List Int), Same H H2 → H p = none → H2 p = some (.lst (ms.map V.int)) → ms.Perm es → ms.Pairwise (· ≤ ·) → Q (.ref p) H2) : rSortO K [.ref a] H Q :=
  ⟨a, es, rfl, h.sq, few, fun ms p pm pw np => q _ p ms (same_new (Same.refl _) np) np upd_same pm pw⟩
theorem rd_lenSO (h : H a = some (SetO w a (fun j => decide (j ∈ ns)) n)) (q : (∃ ks : List Int, ks.Nodup ∧ (∀ k, k ∈ ks ↔ k ∈ ns) ∧ ks.length = n) → Q (.int n) H) : rLenSO w [.ref a] H Q := ⟨a, ns, n, rfl, h, q⟩
end
/-- how many different ones -/
theorem card_nodup {ns ks : List Int} (nd : ns.Nodup) (k1 : ks.Nodup) (k2 : ∀ k, k ∈ ks ↔ k ∈ ns) : ks.length = ns.length := ((List.perm_ext_iff_of_nodup k1 nd).mpr k2).length_eq
theorem nd_sub : ∀ {ks ns : List Int}, ks.Nodup → (∀ k ∈ ks, k ∈ ns) → ks.length ≤ ns.length
  | [], _, _, _ => Nat.zero_le _
  | x :: r, ns, nd, h => by
    have nd2 := List.nodup_cons.mp nd
    have hx := h x (List.mem_cons_self ..)
    have := nd_sub (ks := r) (ns := ns.erase x) nd2.2 fun k hk => (List.mem_erase_of_ne (fun e => nd2.1 (by rw [← e]; exact hk))).mpr (h k (List.mem_cons_of_mem _ hk))
    rw [List.length_erase_of_mem hx] at this
    have : 0 < ns.length := List.length_pos_of_mem hx
    rw [List.length_cons]
    omega
theorem card_dup : ∀ {ns ks : List Int}, ¬ ns.Nodup → ks.Nodup → (∀ k, k ∈ ks ↔ k ∈ ns) → ks.length < ns.length
  | [], _, h, _, _ => absurd List.nodup_nil h
  | x :: r, ks, h, nd, m => by
    rw [List.length_cons]
    by_cases z : x ∈ r
    · have := nd_sub (ns := r) nd fun k hk => by
        rcases List.mem_cons.mp ((m k).mp hk) with e | e
        · rw [e]; exact z
        · exact e
      omega
    · have hr : ¬ r.Nodup := fun n => h (List.nodup_cons.mpr ⟨z, n⟩)
      have hx : x ∈ ks := (m x).mpr (List.mem_cons_self ..)
      have := card_dup (ks := ks.erase x) hr (nd.erase x) fun k => by
        constructor
        · intro hk
          rcases List.mem_cons.mp ((m k).mp (List.mem_of_mem_erase hk)) with e | e
          · rw [e] at hk
            exact absurd hk nd.not_mem_erase
          · exact e
        · intro hk
          have ne : k ≠ x := fun e => z (by rw [← e]; exact hk)
          exact (List.mem_erase_of_ne ne).mpr ((m k).mpr (List.mem_cons_of_mem _ hk))
      rw [List.length_erase_of_mem hx] at this
      have : 0 < ks.length := List.length_pos_of_mem hx
      omega
/-! the box: [cell, whether it is great, a lesser one, how many were taken] -/
def bkL (b : Addr) : Box where
  b := b
  m := [b]
  fp := [b]
  I H := ∃ A f M c : Int, H b = some (.lst [.int A, .int f, .int M, .int c])
  sub a ha := ha
  live H i a ha := by
    obtain ⟨_, _, _, _, h⟩ := i
    rw [List.mem_singleton.mp ha]
    exact ⟨_, h⟩
  frame H H' i k := by
    obtain ⟨A, f, M, c, h⟩ := i
    exact ⟨A, f, M, c, by rw [k b (List.mem_singleton.mpr rfl)]; exact h⟩
def IsBk (B : Box) : Prop := ∃ b, B = bkL b
theorem bk_put {b : Addr} {H0 H : Hp} {A f M c : Int} (w : Wg (bkL b) H0 H) : Wg (bkL b) H0 (upd H b (.lst [.int A, .int f, .int M, .int c])) :=
  ⟨fun a o ha e => by
    have nb : a ≠ b := fun z => ha (by rw [z]; exact List.mem_singleton.mpr rfl)
    rw [upd_ne nb]
    exact w.keep a o ha e, w.i0, ⟨A, f, M, c, upd_same⟩⟩
/-! images that may be wrong -/
def EOk (e : Int) : Prop := -1 ≤ e ∧ e ≤ 999
instance (e : Int) : Decidable (EOk e) := by unfold EOk; exact inferInstance
def IB (M : List Addr) (H : Hp) (v : V) (k : Int) : Prop :=
  (k = -1 ∧ ((∃ p xs, v = .ref p ∧ p ∉ M ∧ H p = some (.lst xs)) ∨ (∃ p es, v = .ref p ∧ TG H p es ∧ (es.length = 0 ∨ 12 < es.length) ∧ es.length ≤ 1000))) ∨
  (∃ (a : Addr) (es : List Int) (j : Nat), v = .ref a ∧ TG H a es ∧ 1 ≤ es.length ∧ es.length ≤ 12 ∧ k = (j : Int) ∧ j < es.length ∧ ¬ EOk (es.getD j 0) ∧ ∀ i : Nat, i < j → EOk (es.getD i 0))
theorem IB.keep {M : List Addr} {H H' : Hp} {v : V} {k : Int} (h : IB M H v k) (kp : ∀ a o, (a ∉ M ∨ ∀ xs, o ≠ .lst xs) → H a = some o → H' a = some o) : IB M H' v k := by
  have tg : ∀ {p es}, TG H p es → TG H' p es := fun {p es} t => t.keep fun o e => kp _ _ (.inr fun xs z => by rw [z] at e; exact t.nl e) e
  rcases h with ⟨e, ⟨p, xs, e2, n, h⟩ | ⟨p, es, e2, h, l⟩⟩ | ⟨a, es, j, e, h, r⟩
  · exact .inl ⟨e, .inl ⟨p, xs, e2, n, kp _ _ (.inl n) h⟩⟩
  · exact .inl ⟨e, .inr ⟨p, es, e2, tg h, l⟩⟩
  · exact .inr ⟨a, es, j, e, tg h, r⟩
theorem IB.same {M : List Addr} {H H' : Hp} {v : V} {k : Int} (h : IB M H v k) (S : Same H H') : IB M H' v k := h.keep fun a o _ e => S a o e
/-- a good image -/
def IG (H : Hp) (v : V) (es : List Int) : Prop := ∃ a, v = .ref a ∧ TG H a es ∧ Img es
theorem IG.same {H H' : Hp} {v : V} {es : List Int} (h : IG H v es) (S : Same H H') : IG H' v es := by
  obtain ⟨a, e, t, i⟩ := h
  exact ⟨a, e, t.same S, i⟩
end Rv
/-! for k38: pairs that are right, and those that are not; careful lines -/
namespace Rv
open PySem PySem.Spec PyProof.Rows L2 RL RQ
theorem TG.inj {H : Hp} {a : Addr} {es fs : List Int} (h : TG H a es) (k : TG H a fs) : es = fs := by
  have im : ∀ {x y : List Int}, x.map V.int = y.map V.int → x = y := fun {x y} e => List.map_inj_right (fun a b h => V.int.inj h) |>.mp e
  rcases h with h | ⟨o, h, _⟩ <;> rcases k with k | ⟨o2, k, _⟩
  · rw [h] at k; injection k with k; injection k with k; exact im k
  · rw [h] at k; injection k with k; cases k
  · rw [h] at k; injection k with k; cases k
  · rw [h] at k; injection k with k; injection k with k1 k; injection k with k; exact im k
theorem IG.wg {B : Box} {H H' : Hp} {v : V} {es : List Int} (h : IG H v es) (w : Wg B H H') : IG H' v es := by
  obtain ⟨a, e, t, i⟩ := h
  exact ⟨a, e, t.wg w, i⟩
/-- which image of two is wrong -/
def PB (M : List Addr) (H : Hp) (v1 v2 : V) (k : Int) : Prop := IB M H v1 k ∨ (∃ es, IG H v1 es ∧ IB M H v2 k)
theorem PB.same {M : List Addr} {H H' : Hp} {v1 v2 : V} {k : Int} (h : PB M H v1 v2 k) (S : Same H H') : PB M H' v1 v2 k := h.imp (fun z => z.same S) fun ⟨es, a, b⟩ => ⟨es, a.same S, b.same S⟩
/-- a rename pair, both tuples known -/
structure RP (H : Hp) (a b : Addr) (es fs : List Int) : Prop where
  ga : GT H a es
  gb : GT H b fs
  ia : Img es
  ib : Img fs
  rn : Ren es fs
theorem RP.same {H H' : Hp} {a b : Addr} {es fs : List Int} (h : RP H a b es fs) (S : Same H H') : RP H' a b es fs := ⟨h.ga.same S, h.gb.same S, h.ia, h.ib, h.rn⟩
theorem RP.ta {H : Hp} {a b : Addr} {es fs : List Int} (h : RP H a b es fs) : TG H a es := .inr h.ga
theorem RP.tb {H : Hp} {a b : Addr} {es fs : List Int} (h : RP H a b es fs) : TG H b fs := .inr h.gb
def PairS (K : PySem.W.Frag) (H : Hp) (v1 v2 : V) (E : XK) (Qg : Addr → Addr → List Int → List Int → Prop) : Prop :=
  (∃ a b es fs, v1 = .ref a ∧ v2 = .ref b ∧ RP H a b es fs ∧ Qg a b es fs) ∨
  (∃ M k, PB M H v1 v2 k ∧ ∀ H' d, Same H H' → H' d = some (.xd [("block", .int k)]) → E (.ref (atTop K "InvalidImage")) (some d) H') ∨
  (∃ es fs, IG H v1 es ∧ IG H v2 fs ∧ ¬ Ren es fs ∧ ∀ H', Same H H' → E (.ref (atTop K "NotRenaming")) none H')
/-- where the values come from -/
def ldL (es fs : List Int) : List Int := fs.map fun e => if e = -1 then -1 else (es.idxOf e : Int)
theorem ldL_len (es fs : List Int) : (ldL es fs).length = fs.length := List.length_map ..
theorem ldL_at {es fs : List Int} {b : Nat} (h : b < fs.length) : atI ((ldL es fs).map V.int) (b : Int) = some (.int (if fs.getD b 0 = -1 then -1 else ((G es fs b : Nat) : Int))) := by
  refine atI_nat ?_
  unfold ldL
  rw [List.getElem?_map, List.getElem?_map, get_at h]
  show some (V.int (if fs.getD b 0 = -1 then -1 else ((es.idxOf (fs.getD b 0) : Nat) : Int))) = _
  unfold G
  by_cases z : fs.getD b 0 = -1
  · rw [if_pos z, if_pos z]
  · rw [if_neg z, if_neg z, if_neg z]
theorem rd_neL {K : PySem.W.Frag} {H : Hp} {Q : VK} {p p2 : Addr} {xs ys : List Int} (h : H p = some (.lst (xs.map V.int))) (h2 : H p2 = some (.lst (ys.map V.int))) (q : Q (.bl (!decide (xs = ys))) H) : rNeD K (.ref p) (.ref p2) H Q := by
  obtain ⟨d1, d2, a1, a2, s1, s2, q2⟩ := rd_eqL (K := K) (Q := fun v H' => ∃ b, v = .bl b ∧ Q (.bl (!b)) H') h h2 ⟨_, rfl, q⟩
  obtain ⟨b, e, q3⟩ := q2
  refine ⟨d1, d2, a1, a2, s1, s2, ?_⟩
  have := V.bl.inj e
  rw [this]
  exact q3
/-- t.index(k) of whole numbers -/
theorem rd_tixI {i j : Nat} {σ : L2.St} {H : Hp} {Q : VK} {p : Addr} {ns : List Int} {k : Int} (hv : σ[i]? = some (some (.ref p))) (hw : σ[j]? = some (some (.int k))) (g : GT H p ns) (m : k ∈ ns) (q : Q (.int (ns.idxOf k : Nat)) H) : tTix (tVar i) (tVar j) σ H Q :=
  ⟨_, hv, p, ns, rfl, g, _, hw, k, rfl, g, m, q⟩
/-- a careful line -/
def Care (r : Ln) : Prop := r.w = sMove ∧ r.g ≠ [] ∧ r.g.getD r.t.toNat 0 = 46
/-! the first number that does not stand in a list -/
structure Cand (c : Nat → Int) (found : List Int) (k j : Nat) (v : Int) : Prop where
  eq : v = c k
  le : k ≤ j
  old : ∀ i, i < k → c i ∈ found
  new : v ∉ found ∨ k = j
theorem Cand.zero {c : Nat → Int} {found : List Int} : Cand c found 0 0 (c 0) := ⟨rfl, Nat.le_refl _, fun i h => absurd h (Nat.not_lt_zero i), .inr rfl⟩
theorem Cand.stay {c : Nat → Int} {found : List Int} {k j : Nat} {v : Int} (h : Cand c found k j v) (n : v ∉ found) : Cand c found k (j + 1) v := ⟨h.eq, Nat.le_succ_of_le h.le, h.old, .inl n⟩
theorem Cand.step {c : Nat → Int} {found : List Int} {k j : Nat} {v : Int} (h : Cand c found k j v) (m : v ∈ found) : Cand c found (k + 1) (j + 1) (c (k + 1)) := by
  have e : k = j := h.new.resolve_left fun n => n m
  exact ⟨rfl, by omega, fun i hi => by
    by_cases z : i = k
    · rw [z, ← h.eq]; exact m
    · exact h.old i (by omega), .inr (by omega)⟩
theorem Cand.done {c : Nat → Int} {found : List Int} {k j : Nat} {v : Int} (h : Cand c found k j v) (l : found.length ≤ j) (inj : ∀ a b, a ≤ j → b ≤ j → c a = c b → a = b) : v ∉ found := fun m => by
  have e : k = j := h.new.resolve_left fun n => n m
  have nd : ((List.range (j + 1)).map c).Nodup := nd_map List.nodup_range fun a ha b hb e2 => inj a b (by have := List.mem_range.mp ha; omega) (by have := List.mem_range.mp hb; omega) e2
  have := nd_sub nd (ns := found) fun x hx => by
    obtain ⟨a, ha, rfl⟩ := List.mem_map.mp hx
    have := List.mem_range.mp ha
    by_cases z : a = k
    · rw [z, ← h.eq]; exact m
    · exact h.old a (by omega)
  rw [List.length_map, List.length_range] at this
  omega
/-- the values of one hundred, from v on -/
def c100 (v : Int) (k : Nat) : Int := v / 100 * 100 + (v + k) % 100
theorem c100_next (v : Int) (k : Nat) : c100 v (k + 1) = (c100 v k).fdiv 100 * 100 + (c100 v k + 1).fmod 100 := by
  unfold c100
  rw [Int.fdiv_eq_ediv_of_nonneg _ (by decide), Int.fmod_eq_emod_of_nonneg _ (by decide)]
  omega
theorem c100_zero (v : Int) : c100 v 0 = v := by unfold c100; omega
theorem c100_inj (v : Int) (a b : Nat) (ha : a ≤ 12) (hb : b ≤ 12) (e : c100 v a = c100 v b) : a = b := by unfold c100 at e; omega
theorem c100_in {v : Int} (h0 : 0 ≤ v) (h1 : v ≤ 999) (k : Nat) : 0 ≤ c100 v k ∧ c100 v k ≤ 999 := by unfold c100; omega
def c1000 (v : Int) (k : Nat) : Int := (v + k) % 1000
theorem c1000_next (v : Int) (k : Nat) : c1000 v (k + 1) = (c1000 v k + 1).fmod 1000 := by
  unfold c1000
  rw [Int.fmod_eq_emod_of_nonneg _ (by decide)]
  omega
theorem c1000_inj (v : Int) (a b : Nat) (ha : a ≤ 13) (hb : b ≤ 13) (e : c1000 v a = c1000 v b) : a = b := by unfold c1000 at e; omega
/-! laying, exchanging -/
theorem set_perm {l : List Int} {i : Nat} {x v : Int} (h : l[i]? = some x) : (l.set i v).Perm (v :: l.eraseIdx i) ∧ l.Perm (x :: l.eraseIdx i) := by
  obtain ⟨hi, e⟩ := List.getElem?_eq_some_iff.mp h
  have p : ∀ y : Int, (l.take i ++ y :: l.drop (i + 1)).Perm (y :: l.eraseIdx i) := fun y => by
    rw [List.eraseIdx_eq_take_drop_succ]
    exact List.perm_middle
  constructor
  · rw [List.set_eq_take_append_cons_drop, if_pos hi]
    exact p v
  · have := p x
    rw [← e, ← List.drop_eq_getElem_cons hi, List.take_append_drop] at this
    rw [← e]
    exact this
theorem set_set_perm {l : List Int} {i j : Nat} (hi : i < l.length) (hj : j < l.length) : ((l.set i (l.getD j 0)).set j (l.getD i 0)).Perm l := by
  by_cases e : i = j
  · subst e
    have h : l.getD i 0 = l[i] := getD_get hi
    rw [h, List.set_set, List.set_getElem_self hi]
  · have h1 := (set_perm (v := l.getD j 0) (get_at hi))
    have g : (l.set i (l.getD j 0))[j]? = some (l.getD j 0) := by rw [List.getElem?_set_ne e]; exact get_at hj
    have h2 := set_perm (v := l.getD i 0) g
    have a := List.Perm.cons_inv (h1.1.symm.trans h2.2)
    exact h2.1.trans ((a.symm.cons _).trans h1.2.symm)
theorem set3_perm {l : List Int} {i j k : Nat} (hi : i < l.length) (hj : j < l.length) (hk : k < l.length) (ij : i ≠ j) (ik : i ≠ k) (jk : j ≠ k) : (((l.set i (l.getD j 0)).set j (l.getD k 0)).set k (l.getD i 0)).Perm l := by
  have hl : (l.set i (l.getD j 0)).length = l.length := List.length_set ..
  have e1 : (l.set i (l.getD j 0)).getD k 0 = l.getD k 0 := by
    rw [List.getD_eq_getElem?_getD, List.getElem?_set_ne ik, ← List.getD_eq_getElem?_getD]
  have e2 : (l.set i (l.getD j 0)).getD j 0 = l.getD j 0 := by
    rw [List.getD_eq_getElem?_getD, List.getElem?_set_ne ij, ← List.getD_eq_getElem?_getD]
  have m := set_set_perm (l := l.set i (l.getD j 0)) (i := j) (j := k) (by rw [hl]; exact hj) (by rw [hl]; exact hk)
  rw [e1, e2] at m
  have g : (((l.set i (l.getD j 0)).set j (l.getD k 0)).set k (l.getD j 0))[k]? = some (l.getD j 0) := List.getElem?_set_self (by rw [List.length_set, hl]; exact hk)
  have h1 := set_perm (v := l.getD i 0) g
  rw [List.set_set] at h1
  have h2 := set_perm (v := l.getD j 0) (get_at hi)
  have a := List.Perm.cons_inv ((h1.2.symm.trans m).trans h2.1)
  exact h1.1.trans ((a.cons _).trans h2.2.symm)
/-- int(i), int(b) -/
def rIntO : List V → Hp → VK → Prop := fun xs H Q => rIntQ xs H Q ∨ ∃ b, xs = [.bl b] ∧ Q (.int (if b = true then 1 else 0)) H
theorem call_intO {X : Cx} : CallR X (.type "int") rIntO := fun pins s σ H xs us Q I r h => call_int1 pins s σ H xs us Q I r h
theorem rd_intOB {b : Bool} {H : Hp} {Q : VK} (q : Q (.int (if b = true then 1 else 0)) H) : rIntO [.bl b] H Q := .inr ⟨b, rfl, q⟩
theorem rd_intOI {i : Int} {H : Hp} {Q : VK} (q : Q (.int i) H) : rIntO [.int i] H Q := .inl ⟨i, rfl, q⟩
end Rv
namespace Rv
open PySem PySem.Spec PyProof.Rows L2 RL RQ
theorem flat_one (n : Nat) (x : V) : (List.replicate n [x]).flatten = List.replicate n x := by
  induction n with
  | zero => rfl
  | succ n ih => rw [List.replicate_succ, List.flatten_cons, ih, List.replicate_succ]; rfl
theorem img_of {xs es : List Int} {n : Nat} (n1 : 1 ≤ n) (n12 : n ≤ 12) (l : xs.length ≤ n) (rg : ∀ x ∈ xs, 0 ≤ x ∧ x ≤ 999) (pm : es.Perm (xs ++ List.replicate (n - xs.length) (-1))) : Img es := by
  have le := pm.length_eq
  rw [List.length_append, List.length_replicate] at le
  refine ⟨by omega, by omega, fun e he => ?_⟩
  rcases List.mem_append.mp (pm.mem_iff.mp he) with h | h
  · have := rg e h
    omega
  · rw [(List.mem_replicate.mp h).2]
    exact ⟨by decide, by decide⟩
theorem full_app (a b : List Int) : full (a ++ b) = full a ++ full b := List.filter_append ..
theorem full_rep (n : Nat) : full (List.replicate n (-1)) = [] := by
  unfold full
  rw [List.filter_eq_nil_iff]
  intro a ha
  rw [(List.mem_replicate.mp ha).2]
  decide
theorem full_id {xs : List Int} (rg : ∀ x ∈ xs, 0 ≤ x) : full xs = xs := by
  unfold full
  rw [List.filter_eq_self]
  intro a ha
  have := rg a ha
  simp
  omega
theorem full_nd {xs es : List Int} {k : Nat} (rg : ∀ x ∈ xs, 0 ≤ x) (nd : xs.Nodup) (pm : es.Perm (xs ++ List.replicate k (-1))) : (full es).Nodup := by
  have p : (full es).Perm (full (xs ++ List.replicate k (-1))) := pm.filter _
  rw [full_app, full_rep, List.append_nil, full_id rg] at p
  exact p.nodup_iff.mpr nd
/-- without the empty ones, and as many empty ones behind them: the same entries -/
theorem full_back (es : List Int) : (full es ++ List.replicate (es.length - (full es).length) (-1)).Perm es := by
  induction es with
  | nil => exact List.Perm.refl _
  | cons x r ih =>
    have l := List.length_filter_le (fun x : Int => !decide (x = -1)) r
    have l : (full r).length ≤ r.length := l
    by_cases z : x = -1
    · have e : full (x :: r) = full r := List.filter_cons_of_neg (by simpa using z)
      rw [e, List.length_cons, show r.length + 1 - (full r).length = (r.length - (full r).length) + 1 by omega, List.replicate_succ, z]
      exact List.perm_middle.trans (ih.cons _)
    · have e : full (x :: r) = x :: full r := List.filter_cons_of_pos (by simpa using z)
      rw [e, List.length_cons, List.length_cons, show r.length + 1 - ((full r).length + 1) = r.length - (full r).length by omega]
      exact ih.cons _
theorem erase_nd {l : List Nat} (nd : l.Nodup) (i : Nat) : (l.eraseIdx i).Nodup := List.Pairwise.sublist (List.eraseIdx_sublist ..) nd
theorem erase_ne {l : List Nat} (nd : l.Nodup) {i x : Nat} (h : l[i]? = some x) : x ∉ l.eraseIdx i := fun m => by
  obtain ⟨j, hj⟩ := List.getElem?_of_mem m
  rw [List.getElem?_eraseIdx] at hj
  split at hj
  · have := nd_inj nd h hj; omega
  · have := nd_inj nd h hj; omega
theorem nvs_eraseIdx (l : List Nat) (i : Nat) : (nvs l).eraseIdx i = nvs (l.eraseIdx i) := by
  induction l generalizing i with
  | nil => rfl
  | cons x r ih =>
    cases i with
    | zero => rfl
    | succ i => show V.int (x : Int) :: (nvs r).eraseIdx i = V.int (x : Int) :: nvs (r.eraseIdx i); rw [ih]
theorem erase_mem {l : List Nat} {i x : Nat} (h : x ∈ l.eraseIdx i) : x ∈ l := (List.eraseIdx_sublist l i).mem h
theorem cutI_to (es : List Int) {i : Nat} (h : i ≤ es.length) : cutV (es.map V.int) none (some (i : Int)) = (es.take i).map V.int := by
  unfold cutV
  rw [HT.sIx_nat, HT.sIx_none, List.drop_zero, List.length_map, Nat.min_eq_left h, Nat.sub_zero, List.map_take]
theorem cutI_from (es : List Int) {i : Nat} (h : i ≤ es.length) : cutV (es.map V.int) (some (i : Int)) none = (es.drop i).map V.int := by
  unfold cutV
  rw [HT.sIx_nat, HT.sIx_none, List.length_map, Nat.min_eq_left h, ← List.map_drop, List.take_of_length_le (by rw [List.length_map, List.length_drop]; exact Nat.le_refl _)]
end Rv
namespace Rv
open PySem PySem.Spec PyProof.Rows L2 RL RQ
def sgS (e : Int) : Str := if e = -1 then Str.ofString "." else Str.ofString (toString (e.fdiv 100))
def othL (ls : List Int) (one n : Nat) : List Nat := (List.range n).filter fun j => !decide (V.int (ls.getD j 0) = V.int (ls.getD one 0))
def p2L (ls : List Int) (one j : Nat) : Bool := (!decide (V.int (ls.getD j 0) = V.int (-1))) && (!decide (V.int (ls.getD one 0) = V.int (-1)))
def p3L (ls : List Int) (one j : Nat) : Bool := decide (V.str (sgS (ls.getD j 0)) = V.str (sgS (ls.getD one 0)))
def partL (ls : List Int) (one way : Nat) : List Nat := if way = 1 then othL ls one ls.length else if way = 2 then (othL ls one ls.length).filter (p2L ls one) else (othL ls one ls.length).filter (p3L ls one)
theorem oth_lt {ls : List Int} {one n p : Nat} (h : p ∈ othL ls one n) : p < n := List.mem_range.mp (List.mem_filter.mp h).1
theorem oth_len (ls : List Int) (one n : Nat) : (othL ls one n).length ≤ n := by
  have := List.length_filter_le (fun j => !decide (V.int (ls.getD j 0) = V.int (ls.getD one 0))) (List.range n)
  rw [List.length_range] at this
  exact this
theorem part_lt {ls : List Int} {one way p : Nat} (h : p ∈ partL ls one way) : p < ls.length := by
  unfold partL at h
  split at h
  · exact oth_lt h
  · split at h <;> exact oth_lt (List.mem_filter.mp h).1
theorem part_len (ls : List Int) (one way : Nat) : (partL ls one way).length ≤ ls.length := by
  unfold partL
  have := oth_len ls one ls.length
  split
  · exact this
  · split <;> exact Nat.le_trans (List.length_filter_le _ _) this
theorem fl_next {p : Nat → Bool} {l : List Nat} {i : Nat} (h : i < l.length) : (l.take (i + 1)).filter p = (l.take i).filter p ++ if p l[i] = true then [l[i]] else [] := by
  rw [take_next h, List.filter_append]
  congr 1
  by_cases z : p l[i] = true
  · rw [if_pos z, List.filter_cons_of_pos z]; rfl
  · rw [if_neg z, List.filter_cons_of_neg z]; rfl
theorem fr_next {p : Nat → Bool} (i : Nat) : (List.range (i + 1)).filter p = (List.range i).filter p ++ if p i = true then [i] else [] := by
  rw [List.range_succ, List.filter_append]
  congr 1
  by_cases z : p i = true
  · rw [if_pos z, List.filter_cons_of_pos z]; rfl
  · rw [if_neg z, List.filter_cons_of_neg z]; rfl
end Rv
namespace Rv
open PySem PySem.Spec PyProof.Rows L2 RL RQ
def sImage : Str := Str.ofString "image"
def sRen : Str := Str.ofString "renaming"
/-- a bad pair and the error that is due -/
def BadC (H : Hp) (v1 v2 : V) (s : Str) (k : Int) : Prop := (s = sImage ∧ PB [] H v1 v2 k) ∨ (s = sRen ∧ k = 0 ∧ ∃ es fs, IG H v1 es ∧ IG H v2 fs ∧ ¬ Ren es fs)
theorem BadC.same {H H' : Hp} {v1 v2 : V} {s : Str} {k : Int} (h : BadC H v1 v2 s k) (S : Same H H') : BadC H' v1 v2 s k :=
  h.imp (fun ⟨e, b⟩ => ⟨e, b.same S⟩) fun ⟨e, e2, es, fs, a, b, n⟩ => ⟨e, e2, es, fs, a.same S, b.same S, n⟩
theorem set_get {es : List Int} {i j : Nat} {e : Int} (h : i < es.length) : (es.set i e).getD j 0 = if i = j then e else es.getD j 0 := by
  rw [List.getD_eq_getElem?_getD, List.getElem?_set]
  by_cases z : i = j
  · rw [if_pos z, if_pos z, if_pos h]; rfl
  · rw [if_neg z, if_neg z, List.getD_eq_getElem?_getD]
theorem ib_set {H : Hp} {a : Addr} {es : List Int} {i : Nat} {e : Int} (h : TG H a (es.set i e)) (I : Img es) (hi : i < es.length) (n : ¬ EOk e) : IB [] H (.ref a) (i : Int) := by
  refine .inr ⟨a, _, i, rfl, h, by rw [List.length_set]; exact I.1, by rw [List.length_set]; exact I.2.1, rfl, by rw [List.length_set]; exact hi, ?_, fun j hj => ?_⟩
  · rw [set_get hi, if_pos rfl]; exact n
  · rw [set_get hi, if_neg (by omega)]
    exact I.2.2 _ (mem_at (by omega))
theorem img_set {es : List Int} {i : Nat} {e : Int} (I : Img es) (h : EOk e) : Img (es.set i e) := ⟨by rw [List.length_set]; exact I.1, by rw [List.length_set]; exact I.2.1, fun x hx => by
  rcases List.mem_or_eq_of_mem_set hx with k | k
  · exact I.2.2 x k
  · rw [k]; exact h⟩
/-- not a rename pair -/
theorem no_new {es fs : List Int} {i : Nat} {v : Int} (hi : i < fs.length) (n : v ∉ es) : ¬ Ren es (fs.set i v) := fun R => n (R.pm.mem_iff.mpr (List.mem_of_getElem? (List.getElem?_set_self hi)))
theorem no_gone {es fs : List Int} {i : Nat} (R : Ren es fs) (hi : i < fs.length) (f : fs.getD i 0 ≠ -1) : ¬ Ren es (fs.set i (-1)) := fun R2 => by
  have m : fs.getD i 0 ∈ fs.set i (-1) := R2.pm.mem_iff.mp (R.pm.mem_iff.mpr (mem_at hi))
  obtain ⟨j, hj⟩ := List.getElem?_of_mem m
  have lj := (List.getElem?_eq_some_iff.mp hj).1
  rw [List.length_set] at lj
  have e : (fs.set i (-1)).getD j 0 = fs.getD i 0 := by rw [List.getD_eq_getElem?_getD, hj]; rfl
  rw [set_get hi] at e
  by_cases z : i = j
  · rw [if_pos z] at e; exact f e.symm
  · rw [if_neg z] at e
    exact z (R.injF (by rw [R.len]; exact hi) (by rw [R.len]; exact lj) e.symm f)
theorem no_twice {es fs : List Int} {i j : Nat} (hi : i < fs.length) (hj : j < fs.length) (f : fs.getD i 0 ≠ -1) (e : fs.getD j 0 = -1) : ¬ Ren es (fs.set j (fs.getD i 0)) := fun R => by
  have ne : j ≠ i := fun z => by rw [z] at e; exact f e
  have l := R.len
  rw [List.length_set] at l
  refine ne (R.injF (i := j) (j := i) (by omega) (by omega) ?_ ?_)
  · rw [set_get hj, set_get hj, if_pos rfl, if_neg ne]
  · rw [set_get hj, if_pos rfl]; exact f
def dblL (es : List Int) (g k : Int) : List Int := es.map fun e => if e = g then k else e
theorem dbl_get {es : List Int} {g k : Int} {i : Nat} (h : i < es.length) : (dblL es g k).getD i 0 = if es.getD i 0 = g then k else es.getD i 0 := by
  unfold dblL
  rw [List.getD_eq_getElem?_getD, List.getElem?_map, get_at h]; rfl
theorem no_dbl {es fs fs2 : List Int} {g k : Int} (R : Ren es fs) (hg : g ∈ fs) (hk : k ∈ fs) (ne : g ≠ k) (kf : k ≠ -1) : ¬ Ren (dblL es g k) fs2 := fun R2 => by
  obtain ⟨a1, a2⟩ := at_idx (R.pm.mem_iff.mpr hg)
  obtain ⟨b1, b2⟩ := at_idx (R.pm.mem_iff.mpr hk)
  have l : (dblL es g k).length = es.length := List.length_map ..
  have := R2.inj (i := es.idxOf g) (j := es.idxOf k) (by rw [l]; exact a1) (by rw [l]; exact b1) (by
    rw [dbl_get a1, dbl_get b1, a2, b2, if_pos rfl, if_neg (fun z => ne z.symm)]) (by rw [dbl_get a1, a2, if_pos rfl]; exact kf)
  rw [this, b2] at a2
  exact ne a2.symm
theorem img_dbl {es : List Int} {g k : Int} (I : Img es) (hk : EOk k) : Img (dblL es g k) := ⟨by unfold dblL; rw [List.length_map]; exact I.1, by unfold dblL; rw [List.length_map]; exact I.2.1, fun x hx => by
  obtain ⟨e, he, rfl⟩ := List.mem_map.mp hx
  split
  · exact hk
  · exact I.2.2 e he⟩
/-- the full and the empty blocks -/
def fulP (fs : List Int) (n : Nat) : List Nat := (List.range n).filter fun k => !decide (V.int (fs.getD k 0) = V.int (-1))
def empP (fs : List Int) (n : Nat) : List Nat := (List.range n).filter fun k => decide (V.int (fs.getD k 0) = V.int (-1))
def othP (fs : List Int) (g : Int) (l : List Nat) : List Nat := l.filter fun k => !decide (V.int (fs.getD k 0) = V.int g)
theorem mem_fulP {fs : List Int} {n k : Nat} : k ∈ fulP fs n ↔ k < n ∧ fs.getD k 0 ≠ -1 := by
  unfold fulP
  rw [List.mem_filter, List.mem_range, Bool.not_eq_true', decide_eq_false_iff_not]
  exact ⟨fun ⟨a, b⟩ => ⟨a, fun e => b (by rw [e])⟩, fun ⟨a, b⟩ => ⟨a, fun e => b (V.int.inj e)⟩⟩
theorem mem_empP {fs : List Int} {n k : Nat} : k ∈ empP fs n ↔ k < n ∧ fs.getD k 0 = -1 := by
  unfold empP
  rw [List.mem_filter, List.mem_range, decide_eq_true_eq]
  exact ⟨fun ⟨a, b⟩ => ⟨a, V.int.inj b⟩, fun ⟨a, b⟩ => ⟨a, by rw [b]⟩⟩
theorem mem_othP {fs : List Int} {g : Int} {l : List Nat} {k : Nat} : k ∈ othP fs g l ↔ k ∈ l ∧ fs.getD k 0 ≠ g := by
  unfold othP
  rw [List.mem_filter, Bool.not_eq_true', decide_eq_false_iff_not]
  exact ⟨fun ⟨a, b⟩ => ⟨a, fun e => b (by rw [e])⟩, fun ⟨a, b⟩ => ⟨a, fun e => b (V.int.inj e)⟩⟩
theorem fulP_len (fs : List Int) (n : Nat) : (fulP fs n).length ≤ n := by
  have := List.length_filter_le (fun k => !decide (V.int (fs.getD k 0) = V.int (-1))) (List.range n)
  rw [List.length_range] at this
  exact this
theorem empP_len (fs : List Int) (n : Nat) : (empP fs n).length ≤ n := by
  have := List.length_filter_le (fun k => decide (V.int (fs.getD k 0) = V.int (-1))) (List.range n)
  rw [List.length_range] at this
  exact this
theorem one_out : ∀ (l : List Nat) (p : Nat → Bool), l.Nodup → (∀ a ∈ l, ∀ b ∈ l, p a = false → p b = false → a = b) → l.length ≤ (l.filter p).length + 1
  | [], _, _, _ => Nat.zero_le _
  | x :: r, p, nd, h => by
    have nd2 := List.nodup_cons.mp nd
    by_cases z : p x = true
    · have := one_out r p nd2.2 fun a ha b hb => h a (List.mem_cons_of_mem _ ha) b (List.mem_cons_of_mem _ hb)
      rw [List.filter_cons_of_pos z, List.length_cons, List.length_cons]
      omega
    · have all : r.filter p = r := by
        rw [List.filter_eq_self]
        intro a ha
        cases y : p a with
        | true => rfl
        | false =>
          have := h x (List.mem_cons_self ..) a (List.mem_cons_of_mem _ ha) (by simpa using z) y
          rw [this] at nd2
          exact absurd ha nd2.1
      rw [List.filter_cons_of_neg z, all, List.length_cons]
      omega
theorem othP_len {es fs : List Int} (R : Ren es fs) {g : Int} : (fulP fs fs.length).length ≤ (othP fs g (fulP fs fs.length)).length + 1 := by
  refine one_out _ _ (nd_range _ _) fun a ha b hb h1 h2 => ?_
  obtain ⟨a1, a2⟩ := mem_fulP.mp ha
  obtain ⟨b1, b2⟩ := mem_fulP.mp hb
  have e1 : fs.getD a 0 = g := by simpa using h1
  have e2 : fs.getD b 0 = g := by simpa using h2
  exact R.injF (by rw [R.len]; exact a1) (by rw [R.len]; exact b1) (e1.trans e2.symm) a2
end Rv
namespace Rv
open PySem PySem.Spec PyProof.Rows L2 RL RQ
theorem mvB_len (es fs : List Int) (n : Nat) : (mvB es fs n).length ≤ n := by
  have := List.length_filter_le (fun b => !decide (es.getD b 0 = -1) && !decide (es.idxOf (es.getD b 0) = fs.idxOf (es.getD b 0))) (List.range n)
  rw [List.length_range] at this
  unfold mvB
  rw [List.length_map]
  exact this
theorem mvB_next (es fs : List Int) (i : Nat) : mvB es fs (i + 1) = mvB es fs i ++ if (!decide (es.getD i 0 = -1) && !decide (es.idxOf (es.getD i 0) = fs.idxOf (es.getD i 0))) = true then [es.getD i 0] else [] := by
  unfold mvB
  rw [fr_next, List.map_append]
  congr 1
  split <;> rfl
end Rv
namespace Rv
open PySem PySem.Spec PyProof.Rows L2 RL RQ
/-- an item whose data are told -/
def ImD (it : Im) : Prop := ∃ d : PyData, Sh 1 d ∧ ∀ (K : PySem.W.Frag) (M : List Addr) (H : Hp) (v : V), ImAt M H v it → Dp K H v d
/-- how the law marks a line -/
def MkL (n m : Nat) (it : Im) : Prop := (m = 0 ∧ ∃ r : Ln, it = .tup r.vals ∧ LnOk n r ∧ Care r) ∨ (m = 1 ∧ ∃ r : Ln, it = .tup r.vals ∧ LnOk n r ∧ ¬ Care r) ∨ (m = 2 ∧ ¬ Good n it)
structure LnMs (n : Nat) (is : List Im) (ms : List Nat) : Prop where
  len : is.length = ms.length
  mkd : ∀ (i : Nat) (it : Im) (m : Nat), is[i]? = some it → ms[i]? = some m → MkL n m it
  ok : ∀ it ∈ is, Wf it ∧ ImD it
end Rv
/-! the mathematics of plans: paths of moves whose looks never repeat -/
namespace RV
open RL RQ Rv
def mv (g : List Int) (t s : Nat) : List Int := (g.set t (g.getD s 0)).set s (-1)
/-- each move goes from a full to an empty block, no look comes twice -/
def climb : List Int → List (List Nat) → List (Nat × Nat) → List Int → List (List Nat) → Prop
  | g, V, [], g', V' => g' = g ∧ V' = V
  | g, V, (t, s) :: ms, g', V' => t < g.length ∧ s < g.length ∧ g.getD t 0 = -1 ∧ g.getD s 0 ≠ -1 ∧ codes (mv g t s) ∉ V ∧ climb (mv g t s) (V ++ [codes (mv g t s)]) ms g' V'
/-- entries in range -/
def Rg (g : List Int) : Prop := ∀ e ∈ g, -1 ≤ e ∧ e ≤ 999
theorem sg_46 {e : Int} (h : -1 ≤ e ∧ e ≤ 999) : sg e = 46 ↔ e = -1 := by
  unfold sg
  by_cases z : e = -1
  · rw [if_pos z]; exact ⟨fun _ => z, fun _ => rfl⟩
  · rw [if_neg z]
    exact ⟨fun k => by omega, fun k => absurd k z⟩
theorem codes_at {g : List Int} {i : Nat} (h : i < g.length) : (codes g).getD i 0 = sg (g.getD i 0) := by
  unfold codes
  rw [List.getD_eq_getElem?_getD, List.getElem?_map, get_at h]; rfl
theorem code_46 {g : List Int} (R : Rg g) {i : Nat} (h : i < g.length) : (codes g).getD i 0 = 46 ↔ g.getD i 0 = -1 := by
  rw [codes_at h]
  exact sg_46 (R _ (mem_at h))
theorem mv_len (g : List Int) (t s : Nat) : (mv g t s).length = g.length := by unfold mv; rw [List.length_set, List.length_set]
theorem mv_at {g : List Int} {t s : Nat} (ht : t < g.length) (hs : s < g.length) (i : Nat) : (mv g t s).getD i 0 = if s = i then -1 else if t = i then g.getD s 0 else g.getD i 0 := by
  unfold mv
  rw [set_get (by rw [List.length_set]; exact hs)]
  by_cases z : s = i
  · rw [if_pos z, if_pos z]
  · rw [if_neg z, if_neg z, set_get ht]
theorem mv_rg {g : List Int} {t s : Nat} (R : Rg g) (hs : s < g.length) : Rg (mv g t s) := fun e he => by
  unfold mv at he
  rcases List.mem_or_eq_of_mem_set he with k | k
  · rcases List.mem_or_eq_of_mem_set k with k2 | k2
    · exact R e k2
    · rw [k2]; exact R _ (mem_at hs)
  · rw [k]; exact ⟨by decide, by decide⟩
def along (p : List Nat) : List (Nat × Nat) := p.zip p.tail
def shift : List Int → List Nat → List Int
  | g, x :: y :: r => shift (mv g x y) (y :: r)
  | g, _ => g
theorem shift_len : ∀ (p : List Nat) (g : List Int), (shift g p).length = g.length
  | [], g => rfl
  | [x], g => rfl
  | x :: y :: r, g => by
    show (shift (mv g x y) (y :: r)).length = _
    rw [shift_len (y :: r), mv_len]
theorem shift_out : ∀ (p : List Nat) (g : List Int), (∀ x ∈ p, x < g.length) → ∀ z, z ∉ p → (shift g p).getD z 0 = g.getD z 0
  | [], g, _, z, _ => rfl
  | [x], g, _, z, _ => rfl
  | x :: y :: r, g, lt, z, hz => by
    have lx := lt x (List.mem_cons_self ..)
    have ly := lt y (List.mem_cons_of_mem _ (List.mem_cons_self ..))
    show (shift (mv g x y) (y :: r)).getD z 0 = _
    rw [shift_out (y :: r) (mv g x y) (fun u hu => by rw [mv_len]; exact lt u (List.mem_cons_of_mem _ hu)) z (fun h => hz (List.mem_cons_of_mem _ h)), mv_at lx ly, if_neg (fun e => hz (by rw [← e]; exact List.mem_cons_of_mem _ (List.mem_cons_self ..))), if_neg (fun e => hz (by rw [← e]; exact List.mem_cons_self ..))]
/-- behind a path each block has what the next one had -/
theorem shift_at : ∀ (u : List Nat) (g : List Int) (b b' : Nat) (w : List Nat), (u ++ b :: b' :: w).Nodup → (∀ x ∈ u ++ b :: b' :: w, x < g.length) → (shift g (u ++ b :: b' :: w)).getD b 0 = g.getD b' 0
  | [], g, b, b', w, nd, lt => by
    have lb := lt b (List.mem_cons_self ..)
    have lb' := lt b' (List.mem_cons_of_mem _ (List.mem_cons_self ..))
    have nb := (List.nodup_cons.mp nd).1
    show (shift (mv g b b') (b' :: w)).getD b 0 = _
    rw [shift_out (b' :: w) _ (fun u hu => by rw [mv_len]; exact lt u (List.mem_cons_of_mem _ hu)) b nb, mv_at lb lb', if_neg (fun e => nb (by rw [← e]; exact List.mem_cons_self ..)), if_pos rfl]
  | x :: u, g, b, b', w, nd, lt => by
    obtain ⟨y, r, e⟩ : ∃ y r, u ++ b :: b' :: w = y :: r := by
      cases u with
      | nil => exact ⟨_, _, rfl⟩
      | cons y u => exact ⟨_, _, rfl⟩
    have nd2 := List.nodup_cons.mp nd
    have lx := lt x (List.mem_cons_self ..)
    have ly : y < g.length := lt y (List.mem_cons_of_mem _ (show y ∈ u ++ b :: b' :: w by rw [e]; exact List.mem_cons_self ..))
    have ih := shift_at u (mv g x y) b b' w nd2.2 (fun z hz => by rw [mv_len]; exact lt z (List.mem_cons_of_mem _ hz))
    have es : shift g (x :: u ++ b :: b' :: w) = shift (mv g x y) (u ++ b :: b' :: w) := by
      rw [List.cons_append, e]; rfl
    have hb' : b' ∈ u ++ b :: b' :: w := List.mem_append_right _ (List.mem_cons_of_mem _ (List.mem_cons_self ..))
    rw [es, ih, mv_at lx ly]
    have n1 : y ≠ b' := fun z => by
      have nd3 := nd2.2
      cases u with
      | nil =>
        have e1 : b = y := (List.cons.inj e).1
        have := (List.nodup_cons.mp nd3).1
        rw [e1, z] at this
        exact this (List.mem_cons_self ..)
      | cons y2 u2 =>
        have e1 : y2 = y := (List.cons.inj e).1
        have := (List.nodup_cons.mp nd3).1
        rw [e1, z] at this
        exact this (List.mem_append_right _ (List.mem_cons_of_mem _ (List.mem_cons_self ..)))
    have n2 : x ≠ b' := fun z => nd2.1 (by rw [z]; exact hb')
    rw [if_neg n1, if_neg n2]
theorem shift_end : ∀ (u : List Nat) (g : List Int) (b : Nat), u ≠ [] → (u ++ [b]).Nodup → (∀ x ∈ u ++ [b], x < g.length) → (shift g (u ++ [b])).getD b 0 = -1
  | [], g, b, h, _, _ => absurd rfl h
  | [x], g, b, _, nd, lt => by
    show (mv g x b).getD b 0 = -1
    rw [mv_at (lt x (List.mem_cons_self ..)) (lt b (by simp)), if_pos rfl]
  | x :: y :: u, g, b, _, nd, lt => by
    have nd2 := List.nodup_cons.mp nd
    exact shift_end (y :: u) (mv g x y) b (by simp) nd2.2 fun z hz => by rw [mv_len]; exact lt z (List.mem_cons_of_mem _ hz)
theorem shift_rg : ∀ (p : List Nat) (g : List Int), Rg g → (∀ x ∈ p, x < g.length) → Rg (shift g p)
  | [], g, R, _ => R
  | [x], g, R, _ => R
  | x :: y :: r, g, R, lt => shift_rg (y :: r) (mv g x y) (mv_rg R (lt y (List.mem_cons_of_mem _ (List.mem_cons_self ..)))) fun z hz => by rw [mv_len]; exact lt z (List.mem_cons_of_mem _ hz)
end RV
/-! plans: chains, rings opened and closed around them -/
namespace RV
open RL RQ Rv
def Nx (es fs : List Int) (c : List Nat) : Prop := ∀ u b b' w, c = u ++ b :: b' :: w → fs.getD b 0 = es.getD b' 0
structure Chn (es fs : List Int) (c : List Nat) : Prop where
  nd : c.Nodup
  lt : ∀ z ∈ c, z < es.length
  sh : ∃ x y r, c = x :: y :: r ∧ es.getD x 0 = -1 ∧ ∀ z ∈ y :: r, es.getD z 0 ≠ -1
  nx : Nx es fs c
  en : ∀ u b, c = u ++ [b] → fs.getD b 0 = -1
structure Cyc (es fs : List Int) (r : List Nat) : Prop where
  nd : r.Nodup
  lt : ∀ z ∈ r, z < es.length
  ne : r ≠ []
  fu : ∀ z ∈ r, es.getD z 0 ≠ -1
  nx : Nx es fs r
  en : ∀ u b x v, r = u ++ [b] → r = x :: v → fs.getD b 0 = es.getD x 0
def Disj (cs : List (List Nat)) : Prop := cs.Pairwise fun a b => ∀ x ∈ a, x ∉ b
/-- all rows of a pair -/
structure Rows (es fs : List Int) (cs rs : List (List Nat)) : Prop where
  len : es.length = fs.length
  rg : Rg es
  ch : ∀ c ∈ cs, Chn es fs c
  cy : ∀ r ∈ rs, Cyc es fs r
  dj : Disj (cs ++ rs)
  rest : ∀ b, b < es.length → (∀ c ∈ cs ++ rs, b ∉ c) → es.getD b 0 = fs.getD b 0
theorem split_of {c : List Nat} {b : Nat} (h : b ∈ c) : ∃ u w, c = u ++ b :: w := List.append_of_mem h
/-- what comes between the opening and the closing -/
structure Mid (fs gA : List Int) (VA : List (List Nat)) (ms : List (Nat × Nat)) (gB : List Int) (WB : List (List Nat)) (Bm : List Nat) : Prop where
  cl : climb gA VA ms gB (VA ++ WB)
  rg : Rg gB
  len : gB.length = gA.length
  out : ∀ z, z ∉ Bm → gB.getD z 0 = gA.getD z 0
  vout : ∀ v ∈ WB, ∀ z, z < gA.length → z ∉ Bm → v.getD z 0 = (codes gA).getD z 0
  sep : ∃ W0, WB = W0 ++ [codes gB] ∧ ∀ v ∈ VA ++ W0, ∃ z, z < gA.length ∧ z ∈ Bm ∧ v.getD z 0 ≠ (codes gB).getD z 0
  fin : ∀ b ∈ Bm, gB.getD b 0 = fs.getD b 0
end RV
/-! plans: rings around what comes between -/
namespace RV
open RL RQ Rv
def lst (r : List Nat) : Nat := r.getLastD 0
/-- the moves of a plan -/
def around_moves (turned : List (List Nat)) (sp : Nat) (ms : List (Nat × Nat)) : List (Nat × Nat) := along (sp :: turned.flatten) ++ ms ++ along (turned.reverse.map lst ++ [sp])
end RV
/-! plans: the rows of a rename pair, their count -/
namespace RV
open RL RQ Rv
section
variable {es fs : List Int}
theorem getD_getN {l : List Nat} {i : Nat} (h : i < l.length) : l.getD i 0 = l[i] := by
  rw [List.getD_eq_getElem?_getD, List.getElem?_eq_getElem h]; rfl
theorem at_split {p u w : List Nat} {b : Nat} (e : p = u ++ b :: w) : p[u.length]? = some b := by
  rw [e, List.getElem?_append_right (Nat.le_refl _), Nat.sub_self]; rfl
theorem at_split2 {p u w : List Nat} {b b' : Nat} (e : p = u ++ b :: b' :: w) : p[u.length + 1]? = some b' := by
  rw [e, List.getElem?_append_right (Nat.le_succ _), show u.length.succ - u.length = 1 by omega]; rfl
theorem lst_of {p u : List Nat} {b : Nat} (e : p = u ++ [b]) : p.getLastD 0 = b := by rw [e]; simp
def rngs (es fs : List Int) : List (List Nat) := (tops es fs es.length).map (Fo es fs)
/-- all cases of a plan -/
structure Planned (es fs : List Int) (ms : List (Nat × Nat)) : Prop where
  climb : ∃ V, climb es [codes es] ms fs V
  len : ms.length = (mvA es fs es.length).length + (rngs es fs).length
end
end RV
/-! set comprehensions whose elements are texts or numbers -/
namespace Rv
open PySem PySem.Spec PyProof.Rows L2 PpSet
section
variable {X : Cx}
/-- one turn's end: the element goes into the set at d -/
def PutK (P : Program) (w : World) (d : Addr) (Nx : Hp → Prop) : VK := fun y G => ∃ (k : Key) (S : Key → Bool) (c : Nat), y = kV k ∧ G d = some (SetK P w d S c) ∧ c + 1 < scanBound ∧
  Nx (upd G d (SetK P w d (fun j => S j || decide (j = k)) (if S k = true then c else c + 1)))
def Sk (P : Program) (w : World) (J : It) (g : L2.TG) (tt : TT) (te : TE) (vs : List Nat) (σ : L2.St) (G0 : Hp) (Q : VK) : Prop :=
  ∀ d, G0 d = none → ∃ W : Nat → Nat → Hp → Prop, (∃ m, W 0 m (upd G0 d (SetK P w d (fun _ => false) 0))) ∧ ∀ i m G, W i m G →
    (J.stop i G ∧ Q (.ref d) G) ∨ (J.go i G ∧ ∃ Nx : Hp → Prop, (∀ G', Nx G' → ∃ m', m' < m ∧ W (i + 1) m' G') ∧
      ∀ x G', J.yld i G x G' → g x (wipe σ vs) G' fun σ2 G2 => wipe σ2 vs = wipe σ vs ∧ tt σ2 G2 fun b G3 => if b = true then te σ2 G3 (PutK P w d Nx) else Nx G3)
def tSk (P : Program) (w : World) (wi : TI) (g : L2.TG) (tt : TT) (te : TE) (vs : List Nat) : TE := fun σ H Q => wi σ H fun J G => Sk P w J g tt te vs σ G Q
abbrev bareK (w : World) : Obj := { cls := .type "set", dict := none, data := .set #[] 0 (.fresh 0 0 (!w.params.followText "set-order")) }
theorem put_key {pins : List (Addr × Obj)} {σ : L2.St} {G : Hp} {s : Shared} {E : Value → Shared → Prop} {d : Addr} {Nx : Hp → Prop} {y : V} {u : Value} {Q : Value → Shared → Prop} (I : Inv X pins σ G s) (ry : RelV y u) (h : PutK X.prog X.w d Nx y G)
    (q : ∀ s' G', Inv X pins σ G' s' → Nx G' → Q .none s') : wpAny (model X.prog X.w) X.A (call (.builtin "set.add") [.ref d, u]) Q E s := by
  obtain ⟨k, S, c, rfl, hd, room, nx⟩ := h
  refine call_set_add (kV_is ry) (key_scan ry) (setK_get I hd) room fun h' sb new => ?_
  have he : ∃ u, h'.get? d = some u := by
    have ⟨o, _, _, _, ho, _⟩ := new
    exact ⟨o, ho⟩
  exact q _ _ (I.write (e := d) (t' := s.toks + 1) (by rw [hd]; trivial) (.inl rfl) (fun b u hb hu => (sb.2 b hb).trans hu) he (setK_new new)) nx
variable {elt tg iter : Expr} {ifs : List Expr} {scope : Scope} {own : List (PySem.Str × Nat)} {pos : Pos} {wi : TI} {g : L2.TG} {tt : TT} {te : TE} {w : World}
theorem pe_sk {P : Program} (hp : X.prog = P) (hw : X.w = w) (calm : X.calm = true) (nd : X.N.Nodup) (hi : PI X tg iter wi) (ok : BlkOk X.N X.env.scope scope own)
    (hg : ∀ (s : Shared) (H : Hp) (C : Addr) (cl : List (PySem.Str × Addr)) (fp : List Addr), PG (X.blk s H scope (compEnvC scope cl C X.env) fp) tg g)
    (ht : ∀ (s : Shared) (H : Hp) (C : Addr) (cl : List (PySem.Str × Addr)) (fp : List Addr), PTs (X.blk s H scope (compEnvC scope cl C X.env) fp) ifs tt)
    (he : ∀ (s : Shared) (H : Hp) (C : Addr) (cl : List (PySem.Str × Addr)) (fp : List Addr), PE (X.blk s H scope (compEnvC scope cl C X.env) fp) elt te)
    (fold : ∀ x, foldedSetIterable iter X.env x = pure x := by intro _; rfl) :
    PE X (.SetComp elt [⟨tg, iter, ifs, 0⟩] scope pos) (tSk P w wi g tt te (own.map (·.2))) := by
  subst hp
  subst hw
  refine ⟨fun pins s0 σ H Q I0 want => ?_⟩
  rw [eval_SetComp]
  have caught : ∀ y ∈ scope.names, y.2 = .free → ∃ c, X.env.cells.lookup y.1 = some c := fun y hy e => (ok.free y hy e).elim (fun z => I0.ok.has _ (.inl z)) fun z => I0.ok.has _ (.inr z)
  refine wpAny_comprehension_free rfl fold (closure_ok caught) ok.kind (fun y hy e => by rw [ok.uniq y hy, e]) (thn (hi.run pins s0 σ H _ I0 want) fun _ s1 found => thn found fun _ s2 got => ?_)
  obtain ⟨it, fp, tn, J, G0, rfl, I2, T, here, seat, want2⟩ := got
  refine newSet_ok (newEnv_comp ?_)
  obtain ⟨d, ed⟩ : ∃ d, d = s2.heap.objs.size := ⟨_, rfl⟩
  have free_d : G0 d = none := I2.hok.fresh (Nat.le_of_eq ed.symm)
  obtain ⟨W, ⟨m0, w0⟩, turn⟩ := want2 d free_d
  obtain ⟨G1, eG1⟩ : ∃ G1, G1 = upd G0 d (SetK X.prog X.w d (fun _ => false) 0) := ⟨_, rfl⟩
  rw [← eG1] at w0
  obtain ⟨s3, es3⟩ : ∃ s3 : Shared, s3 = { s2 with heap := s2.heap.push (bareK X.w) } := ⟨_, rfl⟩
  have hp3 : s3.heap = s2.heap.push (bareK X.w) := by rw [es3]
  have kept3 : ∀ b o, s2.heap.get? b = some o → s3.heap.get? b = some o := fun b o e => by rw [hp3]; exact Heap.get?_push_of_some _ e
  have I3 : Inv X pins σ G1 s3 := by
    rw [es3, eG1]
    refine I2.laid (t' := s2.toks) (fun b o e => Heap.get?_push_of_some _ e) (Nat.le_of_eq ed.symm) ?_
    rw [ed]
    exact setK_new ⟨_, #[], 0, _, Heap.get?_push_size _ rfl, ⟨rfl, rfl, rfl⟩, rfl, (fun e he => by simp at he), (fun k => by simp), (by decide), (by rfl), rfl⟩
  have low : ∀ b ∈ fp, b < s2.heap.objs.size := fun b hb => (T.obj _ _ here b hb).elim fun o k => Heap.lt_size k.1
  have seat3 : ∀ b ∈ fp, FpOk X pins G1 b ∧ b < s3.heap.objs.size := fun b hb => by
    refine ⟨⟨?_, (seat b hb).2⟩, ?_⟩
    · rw [eG1, upd_ne (by rw [ed]; exact Nat.ne_of_lt (low b hb))]
      exact (seat b hb).1
    · rw [hp3, Heap.size_push]
      exact Nat.lt_succ_of_lt (low b hb)
  have here3 : tn 0 s3.heap := T.keep _ _ _ here fun b _ o e => kept3 b o e
  have I4 := block_start I3 ok nd seat3
  obtain ⟨cs, ecs⟩ : ∃ cs, cs = cellsFrom (s3.heap.objs.size + 1) scope.names (cloFrom X.env.cells scope.names []) := ⟨_, rfl⟩
  have pg := hg s3 G1 s3.heap.objs.size cs fp
  have pt := ht s3 G1 s3.heap.objs.size cs fp
  have pe := he s3 G1 s3.heap.objs.size cs fp
  rw [← ecs] at I4
  obtain ⟨ce, ece⟩ : ∃ ce, ce = compEnvC scope cs s3.heap.objs.size X.env := ⟨_, rfl⟩
  have locs : ce.locals = s3.heap.objs.size := by rw [ece]; rfl
  rw [← ece] at I4 pg pt pe
  obtain ⟨s4, es4⟩ : ∃ s4 : Shared, s4 = { s3 with heap := pushCells (s3.heap.push { cls := .type "dict", data := .dict #[] }) scope.names } := ⟨_, rfl⟩
  rw [← es4] at I4
  have here4 : tn 0 s4.heap := T.keep _ _ _ here3 fun b _ o e => by rw [es4]; exact pushCells_keeps _ _ _ _ (Heap.get?_push_of_some _ e)
  have none3 : ∀ b ∈ fp, G1 b = none := fun b hb => (seat3 b hb).1.1
  generalize hR : (compPost (model X.prog X.w) X.A X.xe none (EP X pins σ Q) (.ref d) s3.heap.objs.size : Result → Shared → Prop) = R
  suffices loop : codeAny (model X.prog X.w) X.A (.compLoop (.SetComp elt [⟨tg, iter, ifs, 0⟩] scope pos) 0 (.ref it) (.ref d) ce) R s4 by
    have start := codeAny_compStart_set loop (T.self X.A 0 _ _ _ here4 loop)
    rw [← hR, es4, ece, ecs, es3, ed] at start
    exact start
  have pinned : ∀ {σ' : L2.St} {G' : Hp} {s' : Shared}, Inv (X.blk s3 G1 scope ce fp) [] σ' G' s' → (∀ b ∈ fp, G' b = none) → ∀ b ∈ fp, FpOk (X.blk s3 G1 scope ce fp) [] G' b := fun I' hn b hb =>
    ⟨hn b hb, (I'.ok.exf b hb).1, I'.ok.exfs b hb, .inl hb, fun x c e => (I'.ok.exf b hb).2 x c e, fun p hp => absurd (show p ∈ ([] : List (Addr × Obj)) ++ [] from hp) (by simp)⟩
  subst hR
  refine compLoopS_any (fun n t => ∃ i G, Inv (X.blk s3 G1 scope ce fp) [] (wipe σ (own.map (·.2))) G t ∧ tn i t.heap ∧ (∀ b ∈ fp, G b = none) ∧ W i n G) ?_ m0 ⟨0, G1, I4, here4, none3, w0⟩
  rintro n s5 ⟨i, G5, I5, here5, none5, w5⟩
  rcases turn i n G5 w5 with ⟨stop, over⟩ | ⟨go, Nx, next, step⟩
  · refine thnF (T.done (X.blk s3 G1 scope ce fp) rfl rfl rfl calm i [] s5 _ G5 (fun _ _ => False) I5 (pinned I5 none5) here5 stop) fun r s6 fin => ?_
    obtain ⟨rfl, I6⟩ := fin
    have J6 : Inv X pins σ G5 s6 := I3.call' (ch := fp) I6.os I6.base I6.hok I6.bare fun b hb => by
      obtain ⟨⟨_, a1, a2, a3, a4, a5⟩, _⟩ := seat3 b hb
      exact ⟨a3, a1, a4, a5⟩
    obtain ⟨mm, named, _⟩ := I6.loc
    have named : s6.heap.Ns ce.locals mm := named
    have gone : G5 ce.locals = none := I6.free
    rw [locs] at named gone
    obtain ⟨b0, b1, b2, b3, b4, b5⟩ := I3.fpOk (Nat.le_refl _) gone
    refine ⟨mm, named, fun hh sb => ?_⟩
    exact ⟨.ref d, G5, J6.turned (t' := s6.toks) (fun b o hb e => (sb.2 b hb).trans e) b0 b1 b3 b4 b5, rfl, over⟩
  · refine thnF (T.item (X.blk s3 G1 scope ce fp) rfl rfl rfl calm i [] s5 _ G5 (fun _ _ => False) I5 (pinned I5 none5) here5 go) fun r s6 item => ?_
    obtain ⟨u, rfl, item⟩ := item
    refine thnF item fun _ s7 ⟨x, G7, I7, rx, yx, here7, none7⟩ => ?_
    have P7 := I7.pinned (pinned I7 none7) (T.obj _ _ here7)
    refine thnF (pg.run _ s7 _ G7 x u _ P7 rx (step x G7 yx)) fun _ s8 ⟨σ8, G8, I8, same8, want8⟩ => ?_
    refine thnF (pt.run _ s8 σ8 G8 _ I8 want8) fun b s9 ⟨G9, I9, want9⟩ => ?_
    have close : ∀ (t : Shared) (G' : Hp), Inv (X.blk s3 G1 scope ce fp) ([] ++ pinsAt fp s7.heap) σ8 G' t → Nx G' → ∃ m, m < n ∧ ∃ i G, Inv (X.blk s3 G1 scope ce fp) [] (wipe σ (own.map (·.2))) G t ∧ tn i t.heap ∧ (∀ b ∈ fp, G b = none) ∧ W i m G := fun t G' I' nx => by
      obtain ⟨m', less, wn⟩ := next G' nx
      have still : ∀ b ∈ fp, ∀ o, s7.heap.get? b = some o → t.heap.get? b = some o ∧ G' b = none := fun b hb o e => by
        have k := I'.pin (b, o) (List.mem_append_right _ (List.mem_append_right _ (mem_pinsAt hb e)))
        exact ⟨k.1, k.2.1⟩
      have len : (wipe σ (own.map (·.2))).length = σ8.length := (congrArg List.length same8).symm.trans (wipe_length ..)
      refine ⟨m', less, i + 1, G', (I'.unpinned (pins := [])).weak len fun j v e => ?_, T.keep _ _ _ here7 fun b hb o e => (still b hb o e).1, fun b hb => ?_, wn⟩
      · rw [← same8] at e
        exact (wipe_some e).1
      · exact (T.obj _ _ here7 b hb).elim fun o k => (still b hb o k.1).2
    cases b with
    | false => exact close s9 G9 I9 want9
    | true => exact thnF (pe.run _ s9 σ8 G9 _ I9 want9) fun u s10 ⟨y, G10, I10, ry, add⟩ => put_key (X := X.blk s3 G1 scope ce fp) I10 ry add fun s11 G11 I11 nx => close s11 G11 I11 nx
end
theorem rd_sk {P : Program} {w : World} {wi : TI} {g : L2.TG} {tt : TT} {te : TE} {vs : List Nat} {σ : L2.St} {H : Hp} {Q : VK} (q : wi σ H fun J G => Sk P w J g tt te vs σ G Q) : tSk P w wi g tt te vs σ H Q := q
/-- how many different ones among what was put in -/
inductive Dn : List Nat → Nat → Prop
  | nil : Dn [] 0
  | old {ks : List Nat} {c k : Nat} : Dn ks c → k ∈ ks → Dn (ks ++ [k]) c
  | new {ks : List Nat} {c k : Nat} : Dn ks c → k ∉ ks → Dn (ks ++ [k]) (c + 1)
theorem Dn.le {ks : List Nat} {c : Nat} (h : Dn ks c) : c ≤ ks.length := by
  induction h with
  | nil => exact Nat.le_refl _
  | old _ _ ih => rw [List.length_append]; omega
  | new _ _ ih => rw [List.length_append]; exact Nat.succ_le_succ ih
theorem Dn.pos {ks : List Nat} {c : Nat} (h : Dn ks c) : ks ≠ [] → 1 ≤ c := by
  induction h with
  | nil => intro k; exact absurd rfl k
  | old h m ih => intro _; exact ih fun e => by rw [e] at m; exact (List.not_mem_nil m).elim
  | new _ _ ih => intro _; exact Nat.succ_le_succ (Nat.zero_le _)
theorem Dn.few {ks : List Nat} {c : Nat} (h : Dn ks c) : c < 2 ↔ ∀ x ∈ ks, ∀ y ∈ ks, x = y := by
  induction h with
  | nil => exact ⟨fun _ x hx => (List.not_mem_nil hx).elim, fun _ => by decide⟩
  | @old ks c k h m ih =>
    rw [ih]
    refine ⟨fun a x hx y hy => ?_, fun a x hx y hy => a x (List.mem_append_left _ hx) y (List.mem_append_left _ hy)⟩
    have g : ∀ z ∈ ks ++ [k], z ∈ ks := fun z hz => (List.mem_append.mp hz).elim id fun e => by rw [List.mem_singleton.mp e]; exact m
    exact a x (g x hx) y (g y hy)
  | @new ks c k h n ih =>
    refine ⟨fun lt => ?_, fun a => ?_⟩
    · by_cases e : ks = []
      · rw [e]
        intro x hx y hy
        rw [List.nil_append] at hx hy
        rw [List.mem_singleton.mp hx, List.mem_singleton.mp hy]
      · have := h.pos e
        omega
    · by_cases e : ks = []
      · rw [e] at h
        have := h.le
        rw [List.length_nil] at this
        omega
      · obtain ⟨x, hx⟩ := List.exists_mem_of_ne_nil ks e
        have := a x (List.mem_append_left _ hx) k (by simp)
        exact absurd (by rw [← this]; exact hx) n
def keyC (k : Nat) : Key := .inr (one k)
def inK (ks : List Nat) : Key → Bool := fun j => ks.any fun k => decide (j = keyC k)
theorem keyC_inj {a b : Nat} (h : keyC a = keyC b) : a = b := sgn_inj (Sum.inr.inj h)
/-- one-character texts; Pv tells what was put in so far, in order, perhaps twice -/
theorem sk_it {P : Program} {w : World} {J : It} {n : Nat} {G : Hp → Prop} {Y : Nat → Hp → V → Hp → Prop} (wk : Walk J n G Y) {g : L2.TG} {tt : TT} {te : TE} {vs : List Nat} {σ : L2.St} {H0 : Hp} {Q : VK} (Pv : Nat → List Nat → Prop) (p0 : Pv 0 []) (sm : ∀ i ks, i ≤ n → Pv i ks → ks.length < 1000) (hG : ∀ H, Same H0 H → G H)
    (hs : ∀ i x H H' ks (Qc : VK) (R : Hp → Prop), i < n → Same H0 H → Pv i ks → Y i H x H' → (∀ k H5, Same H H5 → Pv (i + 1) (ks ++ [k]) → Qc (.str (one k)) H5) → (∀ H3, Same H H3 → Pv (i + 1) ks → R H3) →
      g x (wipe σ vs) H' fun σ2 H2 => wipe σ2 vs = wipe σ vs ∧ tt σ2 H2 fun b H3 => if b = true then te σ2 H3 Qc else R H3)
    (hd : ∀ H d ks c, Same H0 H → H0 d = none → Dn ks c → (∃ S, H d = some (SetK P w d S c)) → Pv n ks → Q (.ref d) H) : Sk P w J g tt te vs σ H0 Q := fun d nd => by
  refine ⟨fun i m H => m = n - i ∧ i ≤ n ∧ Same H0 H ∧ ∃ ks c, Dn ks c ∧ H d = some (SetK P w d (inK ks) c) ∧ Pv i ks, ⟨n, rfl, Nat.zero_le _, same_new (Same.refl _) nd, [], 0, .nil, ?_, p0⟩, ?_⟩
  · rw [upd_same]
    rfl
  rintro i m H ⟨rfl, hi, S, ks, c, hc, hD, p⟩
  have gG := hG H S
  by_cases hlt : i < n
  · refine .inr ⟨wk.goes i H hlt gG, fun H' => i < n ∧ Same H0 H' ∧ ∃ ks c, Dn ks c ∧ H' d = some (SetK P w d (inK ks) c) ∧ Pv (i + 1) ks, fun H' p' => ⟨n - (i + 1), by omega, rfl, hlt, p'.2⟩, fun x H' y => ?_⟩
    refine hs i x H H' ks _ _ hlt S p (wk.yields i H x H' hlt gG y) (fun k H5 S5 pz => ?_) (fun H3 S3 pz => ⟨hlt, S.trans S3, ks, c, hc, S3 _ _ hD, pz⟩)
    have l := sm i ks hi p
    have l2 := hc.le
    have mk : inK ks (keyC k) = true ↔ k ∈ ks := by
      unfold inK
      rw [List.any_eq_true]
      exact ⟨fun ⟨a, ha, e⟩ => by rw [keyC_inj (of_decide_eq_true e)]; exact ha, fun h => ⟨k, h, decide_eq_true rfl⟩⟩
    have room : c + 1 < scanBound := by unfold scanBound; omega
    refine ⟨keyC k, _, c, rfl, S5 _ _ hD, room, hlt, same_mut (S.trans S5) nd, ks ++ [k], (if inK ks (keyC k) = true then c else c + 1), ?_, ?_, pz⟩
    · by_cases z : k ∈ ks
      · rw [if_pos (mk.mpr z)]; exact hc.old z
      · rw [if_neg (fun q => z (mk.mp q))]; exact hc.new z
    · rw [upd_same]
      congr 2
      funext j
      unfold inK
      rw [List.any_append, List.any_cons, List.any_nil, Bool.or_false]
  · have e : i = n := by omega
    subst e
    exact .inl ⟨wk.stops H gG, hd H d ks c S nd hc ⟨_, hD⟩ p⟩
/-- len(s), s a set of texts -/
def rLenSK (P : Program) (w : World) : List V → Hp → VK → Prop := fun xs H Q => ∃ (a : Addr) (S : Key → Bool) (n : Nat), xs = [.ref a] ∧ H a = some (SetK P w a S n) ∧ Q (.int n) H
theorem call_lenSK {X : Cx} : CallR X (.builtin "len") (rLenSK X.prog X.w) := by
  intro pins s σ H xs us Q I r h
  obtain ⟨a, S, n, rfl, ha, q⟩ := h
  rw [Vals.ref1 r]
  obtain ⟨o, es, ep, t, ho, hex, hd, _, _, lt, hf, hn⟩ := setK_get I ha
  refine call_len_set ho hex hd hf (by unfold scanBound at lt; omega) ⟨.int n, H, I.tok _, ⟨_, by rw [hn]⟩, q⟩
theorem rd_lenSK {P : Program} {w : World} {H : Hp} {Q : VK} {a : Addr} {n : Nat} (h : ∃ S, H a = some (SetK P w a S n)) (q : Q (.int n) H) : rLenSK P w [.ref a] H Q := by
  obtain ⟨S, h⟩ := h
  exact ⟨a, S, n, rfl, h, q⟩
end Rv
/-! plans in the heap: what an obstacle is -/
namespace Rv
open PySem PySem.Spec PyProof.Rows L2 RL RQ RV
section
variable {H : Hp} {K : PySem.W.Frag} {Q : VK} {p p2 : Addr} {a b : List Int}
theorem rd_eqI (h : TG H p a) (h2 : TG H p2 b) (q : Q (.bl (decide (a = b))) H) : rEqD K (.ref p) (.ref p2) H Q := ⟨_, _, h.dp, h2.dp, shT _, shT _, by rw [eqv_intsT]; exact q⟩
theorem rd_neI (h : TG H p a) (h2 : TG H p2 b) (q : Q (.bl (!decide (a = b))) H) : rNeD K (.ref p) (.ref p2) H Q := ⟨_, _, h.dp, h2.dp, shT _, shT _, by rw [eqv_intsT]; exact q⟩
end
def crowd (es fs : List Int) : Prop := es.count (-1) = 1 ∧ rngs es fs ≠ []
instance {es fs : List Int} : Decidable (crowd es fs) := by unfold crowd; exact inferInstance
def mono (es : List Int) : Prop := ∀ x ∈ es, ∀ y ∈ es, x ≠ -1 → y ≠ -1 → sg x = sg y
instance {es : List Int} : Decidable (mono es) := by unfold mono; exact inferInstance
def vdt (es fs : List Int) : Nat := if es = fs then 0 else if -1 ∉ es then 1 else if codes es = codes fs then 2 else if ¬ crowd es fs then 0 else if mono es then 3 else 4
def RsnAt (H : Hp) (p : Addr) (k : Nat) (es fs : List Int) : Prop :=
  (k = 1 ∧ H p = some (.tup [.str (Str.ofString "full")])) ∨ (k = 2 ∧ H p = some (.tup [.str (Str.ofString "alike")])) ∨ (k = 3 ∧ ∃ t bs, H p = some (.tup [.str (Str.ofString "rings"), .ref t]) ∧ H t = some (.tup (bs.map V.ref)) ∧ NRows H bs (rngs es fs))
/-- what obstacle does -/
structure ObQ (K : PySem.W.Frag) (H : Hp) (Q : VK) (E : XK) (es fs : List Int) : Prop where
  q0 : vdt es fs = 0 → ∀ H', Same H H' → Q .non H'
  q1 : ∀ k, vdt es fs = k → k ≠ 0 → k ≠ 4 → ∀ H' p, Same H H' → RsnAt H' p k es fs → Q (.ref p) H'
  q4 : vdt es fs = 4 → ∀ H' d t bs, Same H H' → H' d = some (.xd [("rings", .ref t)]) → H' t = some (.tup (bs.map V.ref)) → NRows H' bs (rngs es fs) → E (.ref (atTop K "Undecided")) (some d) H'
theorem walk_its {cs : List Nat} : Walk (Its (txt cs)) cs.length (fun _ => True) (fun i H v H' => H' = H ∧ ∃ h : i < cs.length, v = .str (one cs[i])) :=
  ⟨fun i _ hi _ => by show i < (txt cs).cps.size; simpa [txt] using hi, fun _ _ => by show (txt cs).cps.size ≤ cs.length; simp [txt], fun i H x H' hi _ q => by
    obtain ⟨e, c, hc, rfl⟩ := q
    refine ⟨e, hi, ?_⟩
    have : (txt cs).cps[i]? = some cs[i] := by simp [txt, hi]
    rw [this] at hc
    cases hc
    rfl⟩
theorem rd_tcC {σ : L2.St} {H : Hp} {Q : VK} {i : Nat} {p : Addr} {gs : List Int} {k : Int} (hv : σ[i]? = some (some (.ref p))) (g : GT H p gs) (q : Q (.int (gs.count k : Nat)) H) : tTc (tVar i) (tC (.int k)) σ H Q := ⟨_, hv, p, gs, rfl, g, k, rfl, g, q⟩
/-- the signs that are no dots -/
def sgns (cs : List Nat) (i : Nat) : List Nat := (cs.take i).filter fun c => !decide (c = 46)
theorem sgns_next {cs : List Nat} {i : Nat} (h : i < cs.length) : sgns cs (i + 1) = sgns cs i ++ if cs[i] = 46 then [] else [cs[i]] := by
  unfold sgns
  rw [take_next h, List.filter_append]
  congr 1
  by_cases z : cs[i] = 46
  · rw [if_pos z, List.filter_cons_of_neg (by rw [decide_eq_true z]; decide)]; rfl
  · rw [if_neg z, List.filter_cons_of_pos (by rw [decide_eq_false z]; decide)]; rfl
theorem sgns_len (cs : List Nat) (i : Nat) : (sgns cs i).length ≤ cs.length := by
  unfold sgns
  have h1 := List.length_filter_le (fun c => !decide (c = 46)) (cs.take i)
  have h2 := List.length_take_le i cs
  have h3 : (cs.take i).length ≤ cs.length := by rw [List.length_take]; exact Nat.min_le_right ..
  omega
theorem mono_dn {es : List Int} (R : Rg es) {c : Nat} (h : Dn (sgns (codes es) (codes es).length) c) : decide (((c : Nat) : Int) < 2) = decide (mono es) := by
  rw [decide_eq_decide]
  have : ((c : Nat) : Int) < 2 ↔ c < 2 := by omega
  rw [this, h.few]
  unfold sgns
  rw [List.take_length]
  have mem : ∀ x, x ∈ (codes es).filter (fun c => !decide (c = 46)) ↔ ∃ e ∈ es, e ≠ -1 ∧ sg e = x := fun x => by
    rw [List.mem_filter]
    unfold codes
    rw [List.mem_map]
    refine ⟨fun ⟨⟨e, he, h1⟩, h2⟩ => ⟨e, he, fun z => ?_, h1⟩, fun ⟨e, he, n, h1⟩ => ⟨⟨e, he, h1⟩, ?_⟩⟩
    · rw [← h1, (sg_46 (R e he)).mpr z] at h2
      exact absurd h2 (by decide)
    · rw [Bool.not_eq_true', decide_eq_false_iff_not, ← h1]
      exact fun k => n ((sg_46 (R e he)).mp k)
  refine ⟨fun a x hx y hy nx ny => a _ ((mem _).mpr ⟨x, hx, nx, rfl⟩) _ ((mem _).mpr ⟨y, hy, ny, rfl⟩), fun a x hx y hy => ?_⟩
  obtain ⟨e1, h1, n1, rfl⟩ := (mem x).mp hx
  obtain ⟨e2, h2, n2, rfl⟩ := (mem y).mp hy
  exact a e1 h1 e2 h2 n1 n2
theorem RsnAt.same {H H' : Hp} {p : Addr} {k : Nat} {es fs : List Int} (h : RsnAt H p k es fs) (S : Same H H') : RsnAt H' p k es fs := by
  rcases h with ⟨e, h⟩ | ⟨e, h⟩ | ⟨e, t, bs, h1, h2, h3⟩
  · exact .inl ⟨e, S _ _ h⟩
  · exact .inr (.inl ⟨e, S _ _ h⟩)
  · exact .inr (.inr ⟨e, t, bs, S _ _ h1, S _ _ h2, TupsAt.same S h3⟩)
/-- what those that ask for an obstacle first do -/
structure CfQ (K : PySem.W.Frag) (H : Hp) (Z : Prop) (E : XK) (es fs : List Int) : Prop where
  q0 : vdt es fs = 0 → Z
  q1 : ∀ k, vdt es fs = k → k ≠ 0 → k ≠ 4 → ∀ H' d p, Same H H' → H' d = some (.xd [("reason", .ref p)]) → RsnAt H' p k es fs → E (.ref (atTop K "NoPlan")) (some d) H'
  q4 : vdt es fs = 4 → ∀ H' d t bs, Same H H' → H' d = some (.xd [("rings", .ref t)]) → H' t = some (.tup (bs.map V.ref)) → NRows H' bs (rngs es fs) → E (.ref (atTop K "Undecided")) (some d) H'
/-- a tuple or a list -/
def iOr (w1 w2 : TI) : TI := fun σ H R => w1 σ H R ∨ w2 σ H R
theorem pi_or {X : Cx} {tg e : Expr} {w1 w2 : TI} (h1 : PI X tg e w1) (h2 : PI X tg e w2) : PI X tg e (iOr w1 w2) := ⟨fun pins s σ H R I h => h.elim (h1.run pins s σ H R I) (h2.run pins s σ H R I)⟩
/-- the law's loop from a block: its way if it comes back, else nothing -/
def lpL (es fs : List Int) (i : Nat) : List Nat := if G es fs ((Fo es fs i).getLastD 0) = i ∧ fs.getD ((Fo es fs i).getLastD 0) 0 ≠ -1 then Fo es fs i else []
theorem sgS_one {e : Int} (h : -1 ≤ e ∧ e ≤ 999) : sgS e = one (sg e) := by
  unfold sgS sg
  by_cases z : e = -1
  · rw [if_pos z, if_pos z]; rfl
  · rw [if_neg z, if_neg z]
    obtain ⟨k0, k1⟩ := kind_small (e := e) (by omega) h.2
    exact digit_txtI k0 k1
/-- kinds, and those unlike the first -/
def kinds (es : List Int) : List Int := (es.filter fun e => !decide (e = -1)).map fun e => e.fdiv 100
theorem kinds_len (es : List Int) : (kinds es).length ≤ es.length := by
  unfold kinds
  rw [List.length_map]
  exact List.length_filter_le ..
theorem kinds_next {es : List Int} {i : Nat} (h : i < es.length) : kinds (es.take (i + 1)) = kinds (es.take i) ++ if es[i] = -1 then [] else [es[i].fdiv 100] := by
  unfold kinds
  rw [take_next h, List.filter_append, List.map_append]
  congr 1
  by_cases z : es[i] = -1
  · rw [if_pos z, List.filter_cons_of_neg (by rw [decide_eq_true z]; decide)]; rfl
  · rw [if_neg z, List.filter_cons_of_pos (by rw [decide_eq_false z]; decide)]; rfl
def odd (ks : List Int) (i : Nat) : List Int := (ks.take i).filter fun k => !decide (k = ks.getD 0 0)
theorem odd_len (ks : List Int) (i : Nat) : (odd ks i).length ≤ ks.length := by
  unfold odd
  have h1 := List.length_filter_le (fun k => !decide (k = ks.getD 0 0)) (ks.take i)
  have h3 : (ks.take i).length ≤ ks.length := by rw [List.length_take]; exact Nat.min_le_right ..
  omega
theorem odd_next {ks : List Int} {i : Nat} (h : i < ks.length) : odd ks (i + 1) = odd ks i ++ if ks[i] = ks.getD 0 0 then [] else [ks[i]] := by
  unfold odd
  rw [take_next h, List.filter_append]
  congr 1
  by_cases z : ks[i] = ks.getD 0 0
  · rw [if_pos z, List.filter_cons_of_neg (by rw [decide_eq_true z]; decide)]; rfl
  · rw [if_neg z, List.filter_cons_of_pos (by rw [decide_eq_false z]; decide)]; rfl
theorem sg_fdiv {x y : Int} (h1 : -1 ≤ x ∧ x ≤ 999) (h2 : -1 ≤ y ∧ y ≤ 999) (nx : x ≠ -1) (ny : y ≠ -1) : sg x = sg y ↔ x.fdiv 100 = y.fdiv 100 := by
  unfold sg
  rw [if_neg nx, if_neg ny]
  obtain ⟨a0, a1⟩ := kind_small (e := x) (by omega) h1.2
  obtain ⟨b0, b1⟩ := kind_small (e := y) (by omega) h2.2
  omega
theorem mono_odd {es : List Int} (I : Rg es) : decide (odd (kinds es) (kinds es).length = []) = decide (mono es) := by
  rw [decide_eq_decide]
  unfold odd
  rw [List.take_length, List.filter_eq_nil_iff]
  have mem : ∀ k, k ∈ kinds es ↔ ∃ e ∈ es, e ≠ -1 ∧ e.fdiv 100 = k := fun k => by
    unfold kinds
    rw [List.mem_map]
    refine ⟨fun ⟨e, he, h⟩ => ?_, fun ⟨e, he, n, h⟩ => ⟨e, List.mem_filter.mpr ⟨he, by simpa using n⟩, h⟩⟩
    obtain ⟨h1, h2⟩ := List.mem_filter.mp he
    exact ⟨e, h1, by simpa using h2, h⟩
  refine ⟨fun a x hx y hy nx ny => ?_, fun a k hk => ?_⟩
  · have h1 := a _ ((mem _).mpr ⟨x, hx, nx, rfl⟩)
    have h2 := a _ ((mem _).mpr ⟨y, hy, ny, rfl⟩)
    simp only [Bool.not_eq_true', decide_eq_false_iff_not, Classical.not_not] at h1 h2
    exact (sg_fdiv (I x hx) (I y hy) nx ny).mpr (h1.trans h2.symm)
  · have h0 : (kinds es).getD 0 0 ∈ kinds es := mem_at (List.length_pos_of_mem hk)
    obtain ⟨x, hx, nx, e1⟩ := (mem k).mp hk
    obtain ⟨y, hy, ny, e2⟩ := (mem _).mp h0
    have := (sg_fdiv (I x hx) (I y hy) nx ny).mp (a x hx y hy nx ny)
    rw [e1, e2] at this
    rw [this]
    simp
theorem lp_new {es fs : List Int} (R : Ren es fs) {i0 : Nat} {p : List Nat} (P : Pth (G es fs) es.length i0 p) (n : fs.getD (p.getLastD 0) 0 ≠ -1) (z : G es fs (p.getLastD 0) ≠ i0) : G es fs (p.getLastD 0) ∉ p := fun m => by
  obtain ⟨j, hj⟩ := List.getElem?_of_mem m
  have lj := (List.getElem?_eq_some_iff.mp hj).1
  have ll := P.lt _ (last_mem P.ne)
  have t1 := R.to ll n
  cases j with
  | zero =>
    rw [P.hd] at hj
    exact z (Option.some.inj hj).symm
  | succ j =>
    have h1 : p[j]? = some p[j] := List.getElem?_eq_getElem (by omega)
    have st := P.st j _ _ h1 hj
    have A := way_ar R P h1 hj
    have e : fs.getD p[j] 0 = fs.getD (p.getLastD 0) 0 := A.eq.trans t1.2
    have e2 := R.injF (P.lt _ (List.getElem_mem _)) ll e A.fu
    have la := last_at P.ne
    rw [← e2] at la
    have := nd_inj P.nd h1 la
    omega
theorem NRows.upd {H : Hp} {bs : List Addr} {ps : List (List Nat)} {D : Addr} {xs : List V} {o : HO} (t : NRows H bs ps) (h : H D = some (.lst xs)) : NRows (L2.upd H D o) bs ps := TupsAt.mut h t
/-- what the law is due: 0 nothing, 1 a reason, 2 undecided -/
def DueAt (H : Hp) (k : Nat) (p : Addr) (es fs : List Int) : Prop :=
  (k = 0 ∧ vdt es fs = 0) ∨ (k = 1 ∧ ∃ v, vdt es fs = v ∧ v ≠ 0 ∧ v ≠ 4 ∧ RsnAt H p v es fs) ∨ (k = 2 ∧ vdt es fs = 4 ∧ ∃ bs, H p = some (.tup (bs.map V.ref)) ∧ NRows H bs (rngs es fs))
def rowD (p : List Nat) : PyData := .tuple ((niz p).map PyData.int)
theorem dp_rws {K : PySem.W.Frag} {H : Hp} : ∀ {bs : List Addr} {ps : List (List Nat)}, NRows H bs ps → DpAll K H (bs.map V.ref) (ps.map rowD)
  | [], [], _ => .nil
  | [], p :: ps, t => by have := t.1; simp at this
  | b :: bs, [], t => by have := t.1; simp at this
  | b :: bs, p :: ps, t => by
    obtain ⟨q, e1, e2⟩ := t.2 0 (nvs p) rfl
    cases e1
    exact .cons (.tup (SqT.of e2) (dp_ints (niz p))) (dp_rws ⟨by have := t.1; simpa using this, fun i vs e => t.2 (i + 1) vs e⟩)
theorem sh_rows (ps : List (List Nat)) : Sh 2 (.list (ps.map rowD)) := Sh.list fun d hd => by
  obtain ⟨p, _, rfl⟩ := List.mem_map.mp hd
  exact Sh.tuple fun d hd => by
    obtain ⟨x, _, rfl⟩ := List.mem_map.mp hd
    exact Sh.int x
theorem rd_eqRN {K : PySem.W.Frag} {H : Hp} {Q : VK} {p p2 : Addr} {bs : List Addr} {ps : List (List Nat)} (h : H p = some (.lst (bs.map V.ref))) (t : NRows H bs ps) (h2 : H p2 = some (.lst [])) (q : Q (.bl (decide (ps = []))) H) : rEqD K (.ref p) (.ref p2) H Q := by
  refine ⟨_, _, .lst (SqL.of h) (dp_rws t), .lst (SqL.of h2) .nil, (sh_rows ps).shaped (by decide), by decide, ?_⟩
  cases ps with
  | nil => exact q
  | cons x r => exact q
/-- the lines of a staircase -/
def stairL : List Int → List (Nat × Nat) → List Ln
  | _, [] => []
  | g, (t, s) :: ms => ⟨sMove, t, s, codes g⟩ :: stairL (mv g t s) ms
/-- how far a climb is after some moves -/
structure Hlf (es fs : List Int) (ms : List (Nat × Nat)) (i : Nat) (g : List Int) (V : List (List Nat)) : Prop where
  rest : ∃ V', climb g V (ms.drop i) fs V'
  ls : (stairL es ms).drop i = stairL g (ms.drop i)
  len : g.length = es.length
  rg : Rg g
  vs : V.length = i + 1 ∧ V.getLast? = some (codes g)
theorem atI_end {xs : List V} {v : V} (h : xs.getLast? = some v) : atI xs (-1) = some v := by
  have hl : 0 < xs.length := by
    cases xs with
    | nil => cases h
    | cons x r => exact Nat.succ_pos _
  unfold atI ixN
  rw [if_neg (by decide), if_pos (by omega)]
  show xs[((-1 : Int) + ((xs.length : Nat) : Int)).toNat]? = _
  rw [show ((-1 : Int) + ((xs.length : Nat) : Int)).toNat = xs.length - 1 by omega, ← List.getLast?_eq_getElem?]
  exact h
theorem set_mv (g : List Int) (t s : Nat) : ((g.map V.int).set t (V.int (g.getD s 0))).set s (V.int (-1)) = (mv g t s).map V.int := by
  unfold mv
  rw [List.map_set, List.map_set]
end Rv
/-! plans in the heap: staircases -/
namespace Rv
open PySem PySem.Spec PyProof.Rows L2 RL RQ RV
end Rv
/-! list(zip(a, b)) of two lists -/
namespace Rv
open PySem PySem.Spec PyProof.Rows L2 RZ
section
variable {X : Cx} {pins : List (Addr × Obj)} {σ : L2.St} {A1 : Around} {a b q z TI TO i1 i2 : Addr} {xs ys : List V} {H0 : Hp} {Rs : Result → Shared → Prop}
end
section
variable {X : Cx}
end
end Rv
/-! rows of block numbers: min, remove, sorted, in; xs[::-1]; zip of a way with what follows -/
namespace Rv
open PySem PySem.Spec PyProof.Rows L2 RL RQ RV
section
variable {X : Cx} {K : PySem.W.Frag} {H : Hp} {Q : VK}
/-! xs[::-1] -/
def RvL (K : PySem.W.Frag) (Q : VK) (x : V) (H1 : Hp) : Prop := ∃ a xs, x = .ref a ∧ SqL K H1 a xs ∧ NewL (.lst xs.reverse) Q H1
theorem rd_revL {te : TE} {σ : L2.St} (q : te σ H fun x H1 => RvL K Q x H1) : tRevL K te σ H Q := q
theorem rd_RvL {a : Addr} {xs : List V} (h : H a = some (.lst xs)) (q : NewL (.lst xs.reverse) Q H) : RvL K Q (.ref a) H := ⟨a, xs, rfl, SqL.of h, q⟩
theorem NRows.get {bs : List Addr} {ps : List (List Nat)} (t : NRows H bs ps) {i : Nat} {b : Addr} (h : bs[i]? = some b) : ∃ p, ps[i]? = some p ∧ H b = some (.tup (nvs p)) := by
  have lb := NRows.len t
  have hi := (List.getElem?_eq_some_iff.mp h).1
  obtain ⟨a, e1, e2⟩ := NRows.at t (List.getElem?_eq_getElem (show i < ps.length by omega))
  rw [h] at e1
  cases e1
  exact ⟨_, List.getElem?_eq_getElem (by omega), e2⟩
theorem NRows.mk {bs : List Addr} {ps : List (List Nat)} (l : bs.length = ps.length) (h : ∀ (i : Nat) b p, bs[i]? = some b → ps[i]? = some p → H b = some (.tup (nvs p))) : NRows H bs ps := ⟨by rw [List.length_map]; exact l, fun i vs e => by
  rw [List.getElem?_map] at e
  cases ep : ps[i]? with
  | none => rw [ep] at e; cases e
  | some p =>
    rw [ep] at e
    cases e
    have hi := (List.getElem?_eq_some_iff.mp ep).1
    have eb : bs[i]? = some bs[i] := List.getElem?_eq_getElem (by omega)
    exact ⟨_, eb, h i _ _ eb ep⟩⟩
theorem NRows.rev {bs : List Addr} {ps : List (List Nat)} (t : NRows H bs ps) : NRows H bs.reverse ps.reverse := by
  have lb := NRows.len t
  refine NRows.mk (by rw [List.length_reverse, List.length_reverse, lb]) fun i b p e1 e2 => ?_
  have hi := (List.getElem?_eq_some_iff.mp e1).1
  rw [List.length_reverse] at hi
  rw [List.getElem?_reverse hi] at e1
  rw [List.getElem?_reverse (by omega), ← lb] at e2
  obtain ⟨q, e3, e4⟩ := t.get e1
  rw [e2] at e3
  cases e3
  exact e4
theorem NRows.drop {bs : List Addr} {ps : List (List Nat)} (t : NRows H bs ps) (i : Nat) : NRows H (bs.drop i) (ps.drop i) := by
  have z := TupsAt.drop t i
  rw [← List.map_drop] at z
  exact z
/-! as data -/
/-! xs.remove(row) -/
/-! row in rows -/
theorem any_rows {ps : List (List Nat)} {r : List Nat} : ((ps.map rowD).any fun z => PyData.eqv z (rowD r)) = decide (r ∈ ps) := by
  rw [Bool.eq_iff_iff, List.any_eq_true, decide_eq_true_eq]
  constructor
  · rintro ⟨d, hd, e⟩
    obtain ⟨x, hx, rfl⟩ := List.mem_map.mp hd
    unfold rowD at e
    rw [eqv_intsT, decide_eq_true_eq] at e
    rw [← niz_inj e]
    exact hx
  · intro m
    exact ⟨rowD r, List.mem_map.mpr ⟨r, m, rfl⟩, by unfold rowD; rw [eqv_intsT]; exact decide_eq_true rfl⟩
theorem sh_row (p : List Nat) : Sh 1 (rowD p) := Sh.tuple fun d hd => by
  obtain ⟨x, _, rfl⟩ := List.mem_map.mp hd
  exact Sh.int x
/-! sorted(rows), rows that ascend already -/
theorem lt_rowD (p q : List Nat) : PySem.W.dataLt (rowD p) (rowD q) = decide (niz p < niz q) := by
  have z := PySem.W.dataLt_ints (niz p) (niz q)
  exact z
theorem each_rows {K : PySem.W.Frag} {pins : List (Addr × Obj)} {σ : L2.St} {s : Shared} (I : Inv X pins σ H s) (ek : X.K = K) : ∀ {bs : List Addr} {ps : List (List Nat)} {its : List Value}, NRows H bs ps → Vals (bs.map V.ref) its →
    PySem.W.EachIs (fun v p => ∃ c, v = Value.ref c ∧ H c = some (.tup (nvs p))) its ps ∧ PySem.W.EachIs (fun v p => ∃ as, Reads s.heap v (rowD p) as) its ps
  | [], [], _, _, rv => by cases rv; exact ⟨.nil, .nil⟩
  | [], p :: ps, _, t, _ => by have := NRows.len t; simp at this
  | b :: bs, [], _, t, _ => by have := NRows.len t; simp at this
  | b :: bs, p :: ps, its, t, rv => by
    cases rv with
    | cons r rr =>
      cases r
      obtain ⟨p', e1, e2⟩ := t.get (i := 0) rfl
      cases e1
      have t' : NRows H bs ps := NRows.drop t 1
      obtain ⟨h1, h2⟩ := each_rows I ek t' rr
      obtain ⟨bx, hx⟩ := Dp.reads I (rowD p) (.ref b) (.ref b) (.tup (SqT.of e2) (dp_ints (niz p))) rfl
      exact ⟨.cons ⟨b, rfl, e2⟩ h1, .cons ⟨bx, hx⟩ h2⟩
theorem each_back {H : Hp} : ∀ {out : List Value} {ps : List (List Nat)}, PySem.W.EachIs (fun v p => ∃ c, v = Value.ref c ∧ H c = some (.tup (nvs p))) out ps → ∃ cs : List Addr, NRows H cs ps ∧ Vals (cs.map V.ref) out
  | _, _, .nil => ⟨[], TupsAt.nil, .nil⟩
  | _, _, .cons ⟨c, e, hc⟩ r => by
    obtain ⟨cs, t, rv⟩ := each_back r
    subst e
    refine ⟨c :: cs, NRows.mk (by rw [List.length_cons, List.length_cons, NRows.len t]) fun i b p e1 e2 => ?_, .cons rfl rv⟩
    cases i with
    | zero => cases e1; cases e2; exact hc
    | succ i =>
      obtain ⟨q, e3, e4⟩ := t.get (i := i) e1
      rw [List.getElem?_cons_succ] at e2
      rw [e3] at e2
      cases e2
      exact e4
def rSortR (K : PySem.W.Frag) : List V → Hp → VK → Prop := fun vs H Q => ∃ (a : Addr) (bs : List Addr) (ps : List (List Nat)), vs = [V.ref a] ∧ SqL K H a (bs.map V.ref) ∧ NRows H bs ps ∧ (∀ p ∈ ps, p ≠ []) ∧ ps.Pairwise (fun p q => niz p < niz q) ∧
  ∀ cs, NRows H cs ps → NewL (.lst (cs.map V.ref)) Q H
theorem cr_sortR (hu : X.A.units + 64 < cLine) : CallR X (.builtin "sorted") (rSortR X.K) := by
  intro pins s σ H vs us Q I r h
  obtain ⟨a, bs, ps, rfl, hs, t, ne, pw, q⟩ := h
  obtain ⟨its, rv, hl, hz⟩ := I.list hs
  rw [Vals.ref1 r]
  obtain ⟨h1, h2⟩ := each_rows I rfl t rv
  have lb := NRows.len t
  rw [List.length_map] at hz
  have al : ∀ p q : List Nat, PySem.W.alike (rowD p) (rowD q) = true := fun p q => by
    unfold rowD
    simp only [PySem.W.alike]
    exact PySem.W.alike_ints (niz p) (niz q)
  have ms : ps.mergeSort (PySem.W.dataLe false rowD) = ps := List.mergeSort_of_pairwise (pw.imp fun {p q} h => by
    show (!PySem.W.dataLt (rowD q) (rowD p)) = true
    rw [lt_rowD, Bool.not_eq_true', decide_eq_false_iff_not]
    exact List.lt_asymm h)
  refine PySem.W.sorted_data (enc := rowD) (bs := ps) hl.isList h1 h2 (PySem.W.AllAlike.of al) (.inl fun d hd => ?_) (by omega) (fun b _ => ?_) fun out lo eo => ?_
  · obtain ⟨p, hp, rfl⟩ := List.mem_map.mp hd
    cases p with
    | nil => exact absurd rfl (ne _ hp)
    | cons x p => exact ⟨_, _, rfl⟩
  · show X.A.units + 2 + (rowD b).depth < cLine
    have : (rowD b).depth = 1 := by
      unfold rowD
      simp only [PyData.depth]
      rw [PySem.W.depth_ints]
    omega
  · rw [ms] at eo
    obtain ⟨cs, tc, rc⟩ := each_back eo
    obtain ⟨ep, he'⟩ := PyProof.Rows.sortedAll_at s.heap its out.toArray
    have lc := NRows.len tc
    exact ⟨.ref _, upd H (s.heap.objs.size + 1) (.lst (cs.map V.ref)), I.laid (t' := s.toks) (fun _ _ => PyProof.Rows.sortedAll_old) (Nat.le_succ _) ⟨by rw [List.length_map]; omega, out, ep, rc, he'⟩, rfl, q cs tc _ (I.hok.fresh (Nat.le_succ _))⟩
theorem rd_sortR {a : Addr} {bs : List Addr} {ps : List (List Nat)} (h : H a = some (.lst (bs.map V.ref))) (t : NRows H bs ps) (ne : ∀ p ∈ ps, p ≠ []) (pw : ps.Pairwise fun p q => niz p < niz q) (q : ∀ cs, NRows H cs ps → NewL (.lst (cs.map V.ref)) Q H) : rSortR K [.ref a] H Q := ⟨a, bs, ps, rfl, SqL.of h, t, ne, pw, q⟩
end
theorem rngs_len {es fs : List Int} (R : Ren es fs) {x : List Nat} (h : x ∈ rngs es fs) : x.length ≤ es.length := by
  unfold rngs at h
  obtain ⟨b, hb, rfl⟩ := List.mem_map.mp h
  obtain ⟨P, _⟩ := fo_p R (mem_tops.mp hb).1
  exact P.len
end Rv
/-! the moves of a plan: what is known when they are made -/
namespace Rv
open PySem PySem.Spec PyProof.Rows L2 RL RQ RV
def emI (es : List Int) (n : Nat) : List Nat := (List.range n).filter fun b => decide (es.getD b 0 = -1)
structure MvOk (es fs : List Int) (w0 : List Nat) (cs rs : List (List Nat)) : Prop where
  w1 : w0 ≠ []
  w2 : w0.length ≤ 14
  c1 : ∀ c ∈ cs, c ≠ [] ∧ c.length ≤ 12
  c2 : cs.length ≤ 12
  r1 : ∀ r ∈ rs, r ≠ []
  r2 : rs.flatten.length ≤ 12
  r3 : rs.length ≤ 12
  p1 : rs = [] → Planned es fs (along w0 ++ cs.flatMap along)
  p2 : rs ≠ [] → (∃ x ∈ emI es es.length, x ≠ w0.getD 0 0) ∧ ∀ sp, sp < es.length → es.getD sp 0 = -1 → sp ≠ w0.getD 0 0 → Planned es fs (around_moves rs sp (along w0) ++ cs.flatMap along)
theorem rngs_few {es fs : List Int} : (rngs es fs).length ≤ es.length := by
  have := List.length_filter_le (fun b => decide (IsR (G es fs) (Fo es fs b))) (List.range es.length)
  rw [List.length_range] at this
  unfold rngs tops
  rw [List.length_map]
  exact this
end Rv
/-! reasons compared; what the law asks -/
namespace Rv
open PySem PySem.Spec PyProof.Rows L2 RL RQ RV
abbrev sFull : Str := Str.ofString "full"
abbrev sAlike : Str := Str.ofString "alike"
abbrev sRings : Str := Str.ofString "rings"
section
variable {K : PySem.W.Frag} {H : Hp} {Q : VK} {es fs : List Int} {p t : Addr} {k : Nat}
theorem sh_one {k : Nat} {s : Str} (h : PyData.strOk s = true) : Sh (k + 1) (.tuple [.str s]) := Sh.tuple fun d hd => by rw [List.mem_singleton.mp hd]; exact Sh.str h
/-- two lists of the same rows -/
theorem rd_eqRR {bs cs : List Addr} {ps : List (List Nat)} (h : H p = some (.lst (bs.map V.ref))) (t1 : NRows H bs ps) (h2 : H t = some (.lst (cs.map V.ref))) (t2 : NRows H cs ps) (q : Q (.bl true) H) : rEqD K (.ref p) (.ref t) H Q :=
  ⟨_, _, .lst (SqL.of h) (dp_rws t1), .lst (SqL.of h2) (dp_rws t2), (sh_rows ps).shaped (by decide), (sh_rows ps).shaped (by decide), by rw [SeqAt.eqv_refl _ (sh_rows ps).l]; exact q⟩
/-- [0, None] -/
theorem rd_neZN {l m : Addr} (h : H l = some (.lst [.int 0, .non])) (h2 : H m = some (.lst [.int 0, .non])) (q : Q (.bl false) H) : rNeD K (.ref l) (.ref m) H Q :=
  ⟨.list [.int 0, .none], .list [.int 0, .none], .lst (SqL.of h) (.cons (.int _) (.cons .non .nil)), .lst (SqL.of h2) (.cons (.int _) (.cons .non .nil)), by decide, by decide, q⟩
end
theorem units65w {k : Nat} {A : Around} (r : Room k A) : A.units + 65 < cLine := by have := r.un; omega
/-- the rows of the rings ascend -/
theorem rngs_pw {es fs : List Int} (R : Ren es fs) : (rngs es fs).Pairwise fun p q => niz p < niz q := by
  unfold rngs
  rw [List.pairwise_map]
  refine List.Pairwise.imp_of_mem (fun {b c} hb hc h => ?_) (pw_range es.length fun b => decide (IsR (G es fs) (Fo es fs b)))
  have hb2 := (mem_tops.mp (show b ∈ tops es fs es.length from hb)).1
  have hc2 := (mem_tops.mp (show c ∈ tops es fs es.length from hc)).1
  obtain ⟨P, _⟩ := fo_p R hb2
  obtain ⟨P2, _⟩ := fo_p R hc2
  have h1 := P.hd
  have h2 := P2.hd
  cases e1 : Fo es fs b with
  | nil => rw [e1] at h1; cases h1
  | cons x r =>
    cases e2 : Fo es fs c with
    | nil => rw [e2] at h2; cases h2
    | cons y s =>
      rw [e1] at h1
      rw [e2] at h2
      cases h1
      cases h2
      show ((b : Int) :: niz r) < ((c : Int) :: niz s)
      exact List.Lex.rel (by omega)
theorem rngs_ne {es fs : List Int} (R : Ren es fs) : ∀ p ∈ rngs es fs, p ≠ [] := fun p hp e => by
  unfold rngs at hp
  obtain ⟨b, hb, rfl⟩ := List.mem_map.mp hp
  have h := (fo_p R (mem_tops.mp hb).1).1.hd
  rw [e] at h
  cases h
abbrev wObs : Str := Str.ofString "obstacle"
abbrev wPlan : Str := Str.ofString "plan"
abbrev wFew : Str := Str.ofString "fewest"
def Word (s : Str) : Prop := s = wObs ∨ s = wPlan ∨ s = wFew
/-- what is asked of a pair that is right -/
structure AskQ (H : Hp) (Q : VK) (s : Str) (es fs : List Int) : Prop where
  w : Word s
  g0 : vdt es fs = 0 → (s = wObs → ∀ H' l, Same H H' → H' l = some (.lst [.int 0, .non]) → Q (.ref l) H') ∧
    (s = wPlan → ∀ H' l p ps ms, Same H H' → H' l = some (.lst [.int 0, .ref p]) → H' p = some (.lst (ps.map V.ref)) → TupsAt H' ps (rows (stairL es ms)) → Planned es fs ms → Q (.ref l) H') ∧
    (s = wFew → ∀ H' l, Same H H' → H' l = some (.lst [.int 0, .int (((mvA es fs es.length).length + (rngs es fs).length : Nat) : Int)]) → Q (.ref l) H')
  g1 : ∀ k, vdt es fs = k → k ≠ 0 → k ≠ 4 → ∀ H' l p, Same H H' → H' l = some (.lst [.int (if s = wObs then 0 else 1), .ref p]) → RsnAt H' p k es fs → Q (.ref l) H'
  g4 : vdt es fs = 4 → ∀ H' l t bs, Same H H' → H' l = some (.lst [.int 2, .ref t]) → H' t = some (.tup (bs.map V.ref)) → NRows H' bs (rngs es fs) → Q (.ref l) H'
end Rv
/-! the image between: one chain leads to it, chains alone lead from it (k41) -/
namespace Rv
open PySem PySem.Spec PyProof.Rows L2 RL RQ RV
section
variable {es fs : List Int}
end
end Rv
/-! plans one after another, and lines that are executed again (k41) -/
namespace Rv
open PySem PySem.Spec PyProof.Rows L2 RL RQ RV
theorem shift_snoc : ∀ (u : List Nat) (g : List Int) (x y : Nat), shift g (u ++ [x, y]) = mv (shift g (u ++ [x])) x y
  | [], g, x, y => rfl
  | [a], g, x, y => rfl
  | a :: b :: u, g, x, y => shift_snoc (b :: u) (mv g a b) x y
/-- a script of a plan -/
def Scr (H : Hp) (s : Addr) (g g' : List Int) : Prop := ∃ (ps : List Addr) (ms : List (Nat × Nat)), H s = some (.lst (ps.map V.ref)) ∧ TupsAt H ps (rows (stairL g ms)) ∧ Planned g g' ms ∧ Ren g g' ∧ Img g
/-- plans one after another -/
structure Pls (H : Hp) (ss : List Addr) (gs : List (List Int)) (es fs : List Int) : Prop where
  len : gs.length = ss.length + 1
  hd : gs[0]? = some es
  lt : gs[ss.length]? = some fs
  sc : ∀ (i : Nat) s g g', ss[i]? = some s → gs[i]? = some g → gs[i + 1]? = some g' → Scr H s g g'
  im : ∀ g ∈ gs, Img g ∧ g.length = es.length
/-- what plans does -/
structure PlnQ (K : PySem.W.Frag) (H : Hp) (Q : VK) (E : XK) (es fs : List Int) : Prop where
  n : es ≠ fs → (-1 : Int) ∉ es → ∀ H' d p, Same H H' → H' d = some (.xd [("reason", .ref p)]) → H' p = some (.tup [.str sFull]) → E (.ref (atTop K "NoPlan")) (some d) H'
  y : (es = fs ∨ (-1 : Int) ∈ es) → ∀ H' l ss gs, Same H H' → H' l = some (.lst (ss.map V.ref)) → Pls H' ss gs es fs → ss.length = (if es = fs then 0 else if vdt es fs = 0 then 1 else 2) → Q (.ref l) H'
end Rv
/-! scripts of a plan under crashes (k41) -/
namespace Rv
open PySem PySem.Spec PyProof.Rows L2 RL RQ RV
theorem bk_ne {B : Box} {H : Hp} {s : Addr} {ps : List Addr} (hB : IsBk B) (i : B.I H) (h : H s = some (.lst (ps.map V.ref))) : s ∉ B.m := fun k => by
  obtain ⟨b, rfl⟩ := hB
  obtain ⟨A, f, M, c, hb⟩ := i
  have e : s = b := List.mem_singleton.mp k
  rw [e, hb] at h
  have h2 := HO.lst.inj (Option.some.inj h)
  cases ps with
  | nil => cases h2
  | cons x r => cases h2
section
variable {H H' : Hp} {n w pos : Nat} {gf : Nat → List Int} {mf : Nat → List (Nat × Nat)} {x : Addr}
end
/-- images in the heap -/
def ImsG (H : Hp) (xs : List Addr) (gs : List (List Int)) : Prop := xs.length = gs.length ∧ ∀ (i : Nat) x g, xs[i]? = some x → gs[i]? = some g → GT H x g
theorem ImsG.same {H H' : Hp} {xs : List Addr} {gs : List (List Int)} (h : ImsG H xs gs) (S : Same H H') : ImsG H' xs gs := ⟨h.1, fun i x g a b => (h.2 i x g a b).same S⟩
theorem GT.mutL {H : Hp} {a b : Addr} {es : List Int} {xs : List V} {o : HO} (h : GT H a es) (e : H b = some (.lst xs)) : GT (upd H b o) a es := by
  obtain ⟨u, h1, h2⟩ := h
  exact ⟨u, (upd_ne fun k => by rw [k, e] at h1; cases h1).trans h1, h2⟩
theorem ImsG.mut {H : Hp} {b : Addr} {xs : List Addr} {gs : List (List Int)} {vs : List V} {o : HO} (h : ImsG H xs gs) (e : H b = some (.lst vs)) : ImsG (upd H b o) xs gs := ⟨h.1, fun i x g a c => (h.2 i x g a c).mutL e⟩
theorem ImsG.snoc {H : Hp} {xs : List Addr} {gs : List (List Int)} {x : Addr} {g : List Int} (h : ImsG H xs gs) (k : GT H x g) : ImsG H (xs ++ [x]) (gs ++ [g]) := by
  refine ⟨by rw [List.length_append, List.length_append, h.1]; rfl, fun i y k2 a b => ?_⟩
  by_cases hi : i < xs.length
  · rw [List.getElem?_append_left hi] at a
    rw [List.getElem?_append_left (by rw [← h.1]; exact hi)] at b
    exact h.2 i y k2 a b
  · have li := (List.getElem?_eq_some_iff.mp a).1
    rw [List.length_append, List.length_singleton] at li
    have e : i = xs.length := by omega
    subst e
    rw [List.getElem?_append_right (Nat.le_refl _), Nat.sub_self] at a
    rw [h.1, List.getElem?_append_right (Nat.le_refl _), Nat.sub_self] at b
    cases a
    cases b
    exact k
def imgD (g : List Int) : PyData := .tuple (g.map PyData.int)
theorem dp_imsG {K : PySem.W.Frag} {H : Hp} : ∀ {xs : List Addr} {gs : List (List Int)}, ImsG H xs gs → DpAll K H (xs.map V.ref) (gs.map imgD)
  | [], [], _ => .nil
  | [], _ :: _, h => by have := h.1; simp at this
  | _ :: _, [], h => by have := h.1; simp at this
  | x :: xs, g :: gs, h => .cons (.tup (h.2 0 x g rfl rfl).sq (dp_ints g)) (dp_imsG ⟨by have := h.1; simpa using this, fun i a b c d => h.2 (i + 1) a b c d⟩)
/-- what is asked of a pair that is right -/
structure AskP (H : Hp) (Q : VK) (es fs : List Int) : Prop where
  n : es ≠ fs → (-1 : Int) ∉ es → ∀ H' l p, Same H H' → H' l = some (.lst [.int 1, .ref p]) → H' p = some (.tup [.str sFull]) → Q (.ref l) H'
  y : (es = fs ∨ (-1 : Int) ∈ es) → ∀ H' l m ss gs, Same H H' → H' l = some (.lst [.int 0, .ref m]) → H' m = some (.lst (ss.map V.ref)) → Pls H' ss gs es fs → ss.length = (if es = fs then 0 else if vdt es fs = 0 then 1 else 2) → Q (.ref l) H'
end Rv
/-! for k76: both directions of a rename pair -/
namespace Rv
open PySem PySem.Spec PyProof.Rows L2 RL RQ RV Rv
end Rv
/-! for k76: the rings of a pair and of the reverse pair -/
namespace RZ2
open PySem PySem.Spec PyProof.Rows L2 RL RQ RV Rv
section
variable {es fs : List Int}
end
theorem rd_neRN {K : PySem.W.Frag} {H : Hp} {Q : VK} {p p2 : Addr} {bs : List Addr} {ps : List (List Nat)} (h : H p = some (.lst (bs.map V.ref))) (t : NRows H bs ps) (h2 : H p2 = some (.lst [])) (q : Q (.bl (!decide (ps = []))) H) : rNeD K (.ref p) (.ref p2) H Q := by
  refine ⟨_, _, .lst (SqL.of h) (dp_rws t), .lst (SqL.of h2) .nil, (sh_rows ps).shaped (by decide), by decide, ?_⟩
  cases ps with
  | nil => exact q
  | cons x r => exact q
end RZ2
/-! for k76: anchors of a rename pair, reasons as data -/
namespace RZ2
open PySem PySem.Spec PyProof.Rows L2 RL RQ RV Rv
section
variable {es fs : List Int}
end
section
variable {K : PySem.W.Frag} {H : Hp} {Q : VK} {es fs : List Int} {p d u t : Addr} {k : Nat} {bs cs : List Addr}
end
end RZ2
namespace Rv
open PySem PySem.Spec PyProof.Rows L2
open RQ
end Rv
/-! for k40: lines that move, careful or not; what safe scripts leave no obstacle -/
namespace RH
open PySem PySem.Spec PyProof.Rows L2 RL RQ RV Rv
def fir (r : Ln) (g : List Int) : Bool := !decide (g.getD r.o.toNat 0 = -1) && fitsL r.g (codes g)
def stp (g : List Int) (r : Ln) : List Int := if fir r g = true then mv g r.t.toNat r.o.toNat else g
def run (ls : List Ln) (g : List Int) : List Int := ls.foldl stp g
def cnt : List Ln → List Int → Nat
  | [], _ => 0
  | r :: ls, g => (if fir r g = true then 1 else 0) + cnt ls (stp g r)
/-- a line that moves -/
structure MvL (n : Nat) (r : Ln) : Prop where
  w : r.w = sMove
  t0 : 0 ≤ r.t
  t1 : r.t < n
  o0 : 0 ≤ r.o
  o1 : r.o < n
  ne : r.o ≠ r.t
  gl : r.g = [] ∨ r.g.length = n
/-- its guard asks that the target be empty -/
def CaL (n : Nat) (r : Ln) : Prop := MvL n r ∧ r.g.length = n ∧ r.g.getD r.t.toNat 0 = 46
theorem MvL.tn {n : Nat} {r : Ln} (m : MvL n r) : r.t.toNat < n := by have := m.t0; have := m.t1; omega
theorem MvL.on {n : Nat} {r : Ln} (m : MvL n r) : r.o.toNat < n := by have := m.o0; have := m.o1; omega
theorem MvL.no {n : Nat} {r : Ln} (m : MvL n r) : r.o.toNat ≠ r.t.toNat := by have := m.o0; have := m.t0; have := m.ne; omega
theorem MvL.le {n : Nat} {r : Ln} (m : MvL n r) : r.g.length ≤ n := by
  rcases m.gl with e | e
  · rw [e]; exact Nat.zero_le _
  · omega
theorem run_cons (r : Ln) (ls : List Ln) (g : List Int) : run (r :: ls) g = run ls (stp g r) := rfl
theorem run_snoc (r : Ln) (ls : List Ln) (g : List Int) : run (ls ++ [r]) g = stp (run ls g) r := by
  unfold run; rw [List.foldl_append]; rfl
theorem stp_len (g : List Int) (r : Ln) : (stp g r).length = g.length := by
  unfold stp
  split
  · exact mv_len ..
  · rfl
theorem run_len : ∀ (ls : List Ln) (g : List Int), (run ls g).length = g.length
  | [], g => rfl
  | r :: ls, g => (run_len ls _).trans (stp_len g r)
theorem stp_rg {g : List Int} {r : Ln} (R : Rg g) (m : MvL g.length r) : Rg (stp g r) := by
  unfold stp
  split
  · exact mv_rg R m.on
  · exact R
theorem run_rg : ∀ (ls : List Ln) (g : List Int), Rg g → (∀ r ∈ ls, MvL g.length r) → Rg (run ls g)
  | [], g, R, _ => R
  | r :: ls, g, R, h => run_rg ls _ (stp_rg R (h r (List.mem_cons_self ..))) fun q hq => by rw [stp_len]; exact h q (List.mem_cons_of_mem _ hq)
theorem fir_view {g h : List Int} {r : Ln} (Rg1 : Rg g) (Rg2 : Rg h) (l : h.length = g.length) (m : MvL g.length r) (e : codes g = codes h) : fir r g = fir r h := by
  unfold fir
  rw [e]
  congr 2
  rw [decide_eq_decide, ← code_46 Rg1 m.on, ← code_46 Rg2 (by rw [l]; exact m.on), e]
theorem fir_full {g : List Int} {r : Ln} (h : fir r g = true) : g.getD r.o.toNat 0 ≠ -1 := fun k => by
  unfold fir at h
  rw [decide_eq_true k] at h
  exact Bool.noConfusion h
theorem care_empty {g : List Int} {r : Ln} (R : Rg g) (c : CaL g.length r) (h : fir r g = true) : g.getD r.t.toNat 0 = -1 := by
  unfold fir at h
  rw [Bool.and_eq_true] at h
  have f := (fits_iff (by rw [codes_len]; exact c.1.le)).mp h.2 r.t.toNat (by rw [c.2.1]; exact c.1.tn)
  have e : r.g[r.t.toNat]'(by rw [c.2.1]; exact c.1.tn) = 46 := by
    have := c.2.2
    rwa [List.getD_eq_getElem?_getD, List.getElem?_eq_getElem (by rw [c.2.1]; exact c.1.tn)] at this
  rw [e] at f
  unfold fitC at f
  rw [if_neg (by decide), if_neg (by decide), decide_eq_true_eq] at f
  refine (code_46 R c.1.tn).mp ?_
  rw [RV.getD_getN (by rw [codes_len]; exact c.1.tn)]
  exact f.symm
theorem codes_mv {g : List Int} {t s : Nat} (ls : s < g.length) : codes (mv g t s) = ((codes g).set t ((codes g).getD s 0)).set s 46 := by
  rw [codes_at ls]
  unfold mv codes
  rw [List.map_set, List.map_set]
  rfl
theorem stp_view {g h : List Int} {r : Ln} (R : Rg g) (R2 : Rg h) (l : h.length = g.length) (m : MvL g.length r) (e : codes g = codes h) : codes (stp g r) = codes (stp h r) := by
  unfold stp
  rw [← fir_view R R2 l m e]
  split
  · rw [codes_mv m.on, codes_mv (by rw [l]; exact m.on), e]
  · exact e
theorem ext_at {g h : List Int} (l : h.length = g.length) (q : ∀ i, i < g.length → g.getD i 0 = h.getD i 0) : g = h :=
  List.ext_getElem l.symm fun i h1 h2 => by
    have := q i h1
    rwa [getD_get h1, getD_get h2] at this
theorem stp_inj {g h : List Int} {r : Ln} (R : Rg g) (R2 : Rg h) (l : h.length = g.length) (c : CaL g.length r) (e : codes g = codes h) (q : stp g r = stp h r) : g = h := by
  have f := fir_view R R2 l c.1 e
  unfold stp at q
  by_cases z : fir r g = true
  · have z2 : fir r h = true := by rw [← f]; exact z
    rw [if_pos z, if_pos z2] at q
    have t1 := care_empty R c z
    have t2 := care_empty R2 (by rw [l]; exact c) z2
    have lt := c.1.tn
    have lo := c.1.on
    have no := c.1.no
    have at_ : ∀ i, (mv g r.t.toNat r.o.toNat).getD i 0 = (mv h r.t.toNat r.o.toNat).getD i 0 := fun i => by rw [q]
    refine ext_at l fun i hi => ?_
    by_cases a : i = r.t.toNat
    · rw [a, t1, t2]
    by_cases b : i = r.o.toNat
    · have := at_ r.t.toNat
      rw [mv_at lt lo, mv_at (by omega) (by omega), if_neg no, if_neg no, if_pos rfl, if_pos rfl] at this
      rw [b]; exact this
    · have := at_ i
      rwa [mv_at lt lo, mv_at (by omega) (by omega), if_neg (fun e => b e.symm), if_neg (fun e => a e.symm), if_neg (fun e => b e.symm), if_neg (fun e => a e.symm)] at this
  · have z2 : ¬ fir r h = true := by rw [← f]; exact z
    rwa [if_neg z, if_neg z2] at q
theorem run_inj : ∀ (ls : List Ln) {g h : List Int}, Rg g → Rg h → h.length = g.length → (∀ r ∈ ls, CaL g.length r) → codes g = codes h → run ls g = run ls h → g = h
  | [], _, _, _, _, _, _, _, q => q
  | r :: ls, g, h, R, R2, l, c, e, q => by
    have cr := c r (List.mem_cons_self ..)
    refine stp_inj R R2 l cr e (run_inj ls (stp_rg R cr.1) (stp_rg R2 (by rw [l]; exact cr.1)) (by rw [stp_len, stp_len, l]) (fun x hx => by rw [stp_len]; exact c x (List.mem_cons_of_mem _ hx)) (stp_view R R2 l cr.1 e) q)
/-- without an empty block nothing moves -/
theorem run_full : ∀ (ls : List Ln) {g : List Int}, Rg g → (∀ r ∈ ls, CaL g.length r) → (-1 : Int) ∉ g → run ls g = g
  | [], _, _, _, _ => rfl
  | r :: ls, g, R, c, n => by
    have cr := c r (List.mem_cons_self ..)
    have : stp g r = g := by
      unfold stp
      refine if_neg fun f => n ?_
      rw [← care_empty R cr f]
      exact mem_at cr.1.tn
    rw [run_cons, this]
    exact run_full ls R (fun x hx => c x (List.mem_cons_of_mem _ hx)) n
theorem run_alike {ls : List Ln} {es : List Int} (R : Rg es) (c : ∀ r ∈ ls, CaL es.length r) (safe : run ls (run ls es) = run ls es) (e : codes es = codes (run ls es)) : es = run ls es :=
  run_inj ls R (run_rg ls es R fun r hr => (c r hr).1) (run_len ..) c e safe.symm
/-! moves and what they keep -/
theorem mv_swp {g : List Int} {t s : Nat} (lt : t < g.length) (ls : s < g.length) (e : g.getD t 0 = -1) : (mv g t s).Perm g := by
  unfold mv
  rw [← e]
  exact set_set_perm lt ls
theorem cnt_mv {g : List Int} {t s : Nat} (lt : t < g.length) (ls : s < g.length) (ne : s ≠ t) (fs : g.getD s 0 ≠ -1) (ft : g.getD t 0 ≠ -1) : (mv g t s).count (-1) = g.count (-1) + 1 := by
  have e1 : mv g t s = (g.set t (g.getD s 0)).set s (-1) := rfl
  have p1 := set_perm (v := (-1)) (get_at (l := g.set t (g.getD s 0)) (i := s) (by rw [List.length_set]; exact ls))
  have p2 := set_perm (v := g.getD s 0) (get_at lt)
  have a : (g.set t (g.getD s 0)).getD s 0 = g.getD s 0 := by rw [set_get lt, if_neg (fun z => ne z.symm)]
  rw [a] at p1
  have c1 := p1.1.count_eq (-1)
  have c2 := p1.2.count_eq (-1)
  have c3 := p2.1.count_eq (-1)
  have c4 := p2.2.count_eq (-1)
  rw [List.count_cons] at c1 c2 c3 c4
  rw [if_neg (by simpa using fs)] at c2 c3
  rw [if_neg (by simpa using ft)] at c4
  rw [if_pos (by rfl)] at c1
  rw [e1]
  omega
theorem cnt_mono : ∀ (ls : List Ln) (g : List Int), (∀ r ∈ ls, MvL g.length r) → g.count (-1) ≤ (run ls g).count (-1)
  | [], g, _ => Nat.le_refl _
  | r :: ls, g, h => by
    have m := h r (List.mem_cons_self ..)
    refine Nat.le_trans ?_ (cnt_mono ls (stp g r) fun x hx => by rw [stp_len]; exact h x (List.mem_cons_of_mem _ hx))
    unfold stp
    split
    · rename_i f
      by_cases z : g.getD r.t.toNat 0 = -1
      · rw [(mv_swp m.tn m.on z).count_eq]; exact Nat.le_refl _
      · rw [cnt_mv m.tn m.on m.no (fir_full f) z]; omega
    · exact Nat.le_refl _
/-- each line that fires finds its target empty -/
def Cln : List Ln → List Int → Prop
  | [], _ => True
  | r :: ls, g => (fir r g = true → g.getD r.t.toNat 0 = -1) ∧ Cln ls (stp g r)
theorem cln_care : ∀ (ls : List Ln) (g : List Int), Rg g → (∀ r ∈ ls, CaL g.length r) → Cln ls g
  | [], _, _, _ => True.intro
  | r :: ls, g, R, h => by
    have c := h r (List.mem_cons_self ..)
    exact ⟨fun f => care_empty R c f, cln_care ls _ (stp_rg R c.1) fun x hx => by rw [stp_len]; exact h x (List.mem_cons_of_mem _ hx)⟩
theorem cln_cnt : ∀ (ls : List Ln) (g : List Int), (∀ r ∈ ls, MvL g.length r) → (run ls g).count (-1) = g.count (-1) → Cln ls g
  | [], _, _, _ => True.intro
  | r :: ls, g, h, e => by
    have m := h r (List.mem_cons_self ..)
    have h2 : ∀ x ∈ ls, MvL (stp g r).length x := fun x hx => by rw [stp_len]; exact h x (List.mem_cons_of_mem _ hx)
    have mo := cnt_mono ls (stp g r) h2
    rw [run_cons] at e
    by_cases f : fir r g = true
    · by_cases z : g.getD r.t.toNat 0 = -1
      · refine ⟨fun _ => z, cln_cnt ls _ h2 ?_⟩
        rw [e]
        unfold stp
        rw [if_pos f, (mv_swp m.tn m.on z).count_eq]
      · exfalso
        unfold stp at mo e
        rw [if_pos f] at mo e
        rw [cnt_mv m.tn m.on m.no (fir_full f) z] at mo
        omega
    · refine ⟨fun k => absurd k f, cln_cnt ls _ h2 ?_⟩
      rw [e]
      unfold stp
      rw [if_neg f]
theorem cln_perm : ∀ (ls : List Ln) (g : List Int), (∀ r ∈ ls, MvL g.length r) → Cln ls g → (run ls g).Perm g
  | [], _, _, _ => .refl _
  | r :: ls, g, h, c => by
    have m := h r (List.mem_cons_self ..)
    refine (cln_perm ls (stp g r) (fun x hx => by rw [stp_len]; exact h x (List.mem_cons_of_mem _ hx)) c.2).trans ?_
    unfold stp
    by_cases f : fir r g = true
    · rw [if_pos f]; exact mv_swp m.tn m.on (c.1 f)
    · rw [if_neg f]
theorem ren_run {ls : List Ln} {g : List Int} (nd : (full g).Nodup) (h : ∀ r ∈ ls, MvL g.length r) (c : Cln ls g) : Ren g (run ls g) := ⟨(cln_perm ls g h c).symm, nd⟩
end RH
/-! for k40: one kind and one empty block: a safe script closes no ring -/
namespace RH
open PySem PySem.Spec PyProof.Rows L2 RL RQ RV Rv
section
variable {es fs : List Int}
/-- on a ring each block leads to another of it -/
theorem ring_next (R : Ren es fs) {b : Nat} (hb : b < es.length) (r : IsR (G es fs) (Fo es fs b)) {x : Nat} (hx : x ∈ Fo es fs b) : ∃ y ∈ Fo es fs b, Ar es fs x y := by
  obtain ⟨P, _⟩ := fo_p R hb
  obtain ⟨_, _, A⟩ := rg_end R hb r
  obtain ⟨u, w, e⟩ := split_of hx
  cases w with
  | nil => exact ⟨b, List.mem_of_getElem? P.hd, by rw [← lst_of e]; exact A⟩
  | cons y w => exact ⟨y, by rw [e]; simp, way_ar R P (at_split e) (at_split2 e)⟩
/-- behind a path there is no ring -/
theorem path_ring (R : Ren es fs) {x : Nat} {r : List Nat} (nd : (x :: r).Nodup) (lt : ∀ z ∈ x :: r, z < es.length) (e : fs = shift es (x :: r)) : rngs es fs = [] := by
  refine Classical.byContradiction fun ne => ?_
  obtain ⟨c, hc⟩ := List.exists_mem_of_ne_nil _ ne
  obtain ⟨b, hb, rfl⟩ := List.mem_map.mp hc
  obtain ⟨lb, k⟩ := mem_tops.mp hb
  have stepI : ∀ z ∈ Fo es fs b, z ∈ x :: r ∧ ∃ y ∈ Fo es fs b, (x :: r).idxOf z + 1 = (x :: r).idxOf y := fun z hz => by
    obtain ⟨y, hy, A⟩ := ring_next R lb k hz
    have mz : z ∈ x :: r := Classical.byContradiction fun n => by
      have h := shift_out (x :: r) es lt z n
      rw [← e, A.eq] at h
      exact A.ne (R.inj A.l2 A.l1 h (by rw [← A.eq]; exact A.fu)).symm
    refine ⟨mz, y, hy, ?_⟩
    obtain ⟨u, w, e2⟩ := split_of mz
    cases w with
    | nil =>
      exfalso
      cases u with
      | nil =>
        have h0 : r = [] := (List.cons.inj e2).2
        subst h0
        have : fs = es := e
        exact A.ne (R.inj A.l1 A.l2 (by rw [← A.eq, this]) (by rw [← this]; exact A.fu))
      | cons a u =>
        have h := shift_end (a :: u) es z (by simp) (by rw [← e2]; exact nd) (by rw [← e2]; exact lt)
        rw [← e2, ← e] at h
        exact A.fu h
    | cons z' w =>
      have h := shift_at u es z z' w (by rw [← e2]; exact nd) (by rw [← e2]; exact lt)
      rw [← e2, ← e, A.eq] at h
      have lz : z' < es.length := lt z' (by rw [e2]; simp)
      have ey : y = z' := R.inj A.l2 lz h (by rw [← A.eq]; exact A.fu)
      rw [ey, e2]
      rw [e2] at nd
      have i1 : (u ++ z :: z' :: w).idxOf z = u.length := by
        have := nd_inj nd (List.getElem?_eq_getElem (List.idxOf_lt_length_iff.mpr (show z ∈ u ++ z :: z' :: w by simp))) (i := (u ++ z :: z' :: w).idxOf z) (j := u.length) (by
          rw [List.getElem_idxOf]; exact at_split rfl)
        exact this
      have i2 : (u ++ z :: z' :: w).idxOf z' = u.length + 1 := by
        have := nd_inj nd (List.getElem?_eq_getElem (List.idxOf_lt_length_iff.mpr (show z' ∈ u ++ z :: z' :: w by simp))) (i := (u ++ z :: z' :: w).idxOf z') (j := u.length + 1) (by
          rw [List.getElem_idxOf]; exact at_split2 rfl)
        exact this
      rw [i1, i2]
  have far : ∀ m : Nat, ∃ z ∈ Fo es fs b, m ≤ (x :: r).idxOf z := fun m => by
    induction m with
    | zero => exact ⟨b, List.mem_of_getElem? (fo_p R lb).1.hd, Nat.zero_le _⟩
    | succ m ih =>
      obtain ⟨z, hz, h⟩ := ih
      obtain ⟨_, y, hy, h2⟩ := stepI z hz
      exact ⟨y, hy, by omega⟩
  obtain ⟨z, hz, h⟩ := far (x :: r).length
  have := List.idxOf_lt_length_iff.mpr (stepI z hz).1
  omega
end
/-- one block is empty, all others have one sign -/
structure Uni (c e : Nat) (g : List Int) : Prop where
  le : e < g.length
  em : g.getD e 0 = -1
  kd : ∀ i, i < g.length → i ≠ e → g.getD i 0 ≠ -1 ∧ sg (g.getD i 0) = c
theorem Uni.codes {c e : Nat} {g h : List Int} (u : Uni c e g) (v : Uni c e h) (l : h.length = g.length) : codes g = codes h := by
  refine List.ext_getElem (by rw [codes_len, codes_len, l]) fun i h1 h2 => ?_
  rw [codes_len] at h1 h2
  have : (Rv.codes g).getD i 0 = (Rv.codes h).getD i 0 := by
    rw [codes_at h1, codes_at h2]
    by_cases z : i = e
    · rw [z, u.em, v.em]
    · rw [(u.kd i h1 z).2, (v.kd i h2 z).2]
  rwa [RV.getD_getN (by rw [codes_len]; exact h1), RV.getD_getN (by rw [codes_len]; exact h2)] at this
theorem Uni.move {c e t s : Nat} {g : List Int} (u : Uni c e g) (lt : t < g.length) (ls : s < g.length) (ft : g.getD t 0 = -1) (fs : g.getD s 0 ≠ -1) : t = e ∧ Uni c s (mv g t s) := by
  have te : t = e := Classical.byContradiction fun n => (u.kd t lt n).1 ft
  have se : s ≠ e := fun n => fs (by rw [n]; exact u.em)
  refine ⟨te, ⟨by rw [mv_len]; exact ls, by rw [mv_at lt ls, if_pos rfl], fun i hi n => ?_⟩⟩
  rw [mv_len] at hi
  rw [mv_at lt ls, if_neg (fun z => n z.symm)]
  by_cases z : t = i
  · rw [if_pos z]; exact u.kd s ls se
  · rw [if_neg z]; exact u.kd i hi fun w => z (te.trans w.symm)
theorem uni_of {es : List Int} (one : es.count (-1) = 1) (m : mono es) : ∃ c e, Uni c e es := by
  have h1 : (-1 : Int) ∈ es := List.count_pos_iff.mp (by omega)
  obtain ⟨le, ee⟩ := at_idx h1
  have other : ∀ i, i < es.length → i ≠ es.idxOf (-1) → es.getD i 0 ≠ -1 := fun i hi n z => by
    have p := (set_perm (v := (0 : Int)) (get_at (l := es) (i := es.idxOf (-1)) le))
    rw [ee] at p
    have c1 := p.1.count_eq (-1)
    have c2 := p.2.count_eq (-1)
    rw [List.count_cons] at c1 c2
    rw [if_neg (by decide)] at c1
    rw [if_pos (by rfl)] at c2
    have : (-1 : Int) ∈ es.set (es.idxOf (-1)) 0 := by
      have q : (es.set (es.idxOf (-1)) 0).getD i 0 = -1 := by rw [set_get le, if_neg (fun w => n w.symm)]; exact z
      have k := mem_at (l := es.set (es.idxOf (-1)) 0) (i := i) (by rw [List.length_set]; exact hi)
      rwa [q] at k
    have := List.count_pos_iff.mpr this
    omega
  by_cases f : ∃ i, i < es.length ∧ i ≠ es.idxOf (-1)
  · obtain ⟨j, hj, nj⟩ := f
    exact ⟨sg (es.getD j 0), es.idxOf (-1), le, ee, fun i hi n => ⟨other i hi n, m _ (mem_at hi) _ (mem_at hj) (other i hi n) (other j hj nj)⟩⟩
  · exact ⟨0, es.idxOf (-1), le, ee, fun i hi n => absurd ⟨i, hi, n⟩ f⟩
/-- where a run is: behind a path whose every beginning was met -/
structure Trk (L : List Ln) (c : Nat) (es fs : List Int) (p : List Nat) (A : List Int) : Prop where
  ne : p ≠ []
  nd : p.Nodup
  lt : ∀ x ∈ p, x < es.length
  eq : A = shift es p
  pre : ∀ u x w, p = u ++ x :: w → Uni c x (shift es (u ++ [x])) ∧ run L (shift es (u ++ [x])) = fs
theorem trk_step {L : List Ln} {c : Nat} {es fs : List Int} {p : List Nat} {A : List Int} (Re : Rg es) (ca : ∀ r ∈ L, CaL es.length r) (T : Trk L c es fs p A) {r : Ln} (hr : r ∈ L) (rA : Rg A) (safe : run L (stp A r) = fs) : ∃ q, Trk L c es fs q (stp A r) := by
  have cr := ca r hr
  have lA : A.length = es.length := by rw [T.eq, shift_len]
  by_cases f : fir r A = true
  · obtain ⟨u, x, ep⟩ : ∃ u x, p = u ++ [x] := ⟨p.dropLast, p.getLast T.ne, (List.dropLast_concat_getLast T.ne).symm⟩
    have eA := T.eq
    have U := (T.pre u x [] ep).1
    rw [← ep, ← eA] at U
    have ft := care_empty rA (by rw [lA]; exact cr) f
    have ff := fir_full f
    have lt1 : r.t.toNat < A.length := by rw [lA]; exact cr.1.tn
    have lo1 : r.o.toNat < A.length := by rw [lA]; exact cr.1.on
    obtain ⟨te, U2⟩ := U.move lt1 lo1 ft ff
    have es2 : stp A r = mv A x r.o.toNat := by unfold stp; rw [if_pos f, te]
    rw [te] at U2
    rw [es2] at safe ⊢
    generalize r.o.toNat = y at *
    by_cases m : y ∈ p
    · obtain ⟨u2, w2, e2⟩ := split_of m
      obtain ⟨V, vs⟩ := T.pre u2 y w2 e2
      have lt2 : ∀ z ∈ u2 ++ [y], z < es.length := fun z hz => T.lt z (by
        rw [e2]
        rcases List.mem_append.mp hz with k | k
        · exact List.mem_append_left _ k
        · rw [List.mem_singleton.mp k]; simp)
      have same : mv A x y = shift es (u2 ++ [y]) := run_inj L (mv_rg rA lo1) (shift_rg _ _ Re lt2) (by rw [shift_len, mv_len, lA]) (fun q hq => by rw [mv_len, lA]; exact ca q hq) (U2.codes V (by rw [shift_len, mv_len, lA])) (safe.trans vs.symm)
      refine ⟨u2 ++ [y], by simp, ?_, lt2, same, fun u3 x3 w3 e3 => ?_⟩
      · have := T.nd
        rw [e2, show u2 ++ y :: w2 = (u2 ++ [y]) ++ w2 by simp] at this
        exact (List.nodup_append.mp this).1
      · exact T.pre u3 x3 (w3 ++ w2) (by rw [e2, show u2 ++ y :: w2 = (u2 ++ [y]) ++ w2 by simp, e3]; simp)
    · have e4 : shift es (p ++ [y]) = mv A x y := by
        rw [ep, List.append_assoc]
        show shift es (u ++ [x, y]) = _
        rw [shift_snoc, ← ep, ← eA]
      refine ⟨p ++ [y], by simp, ?_, fun z hz => ?_, e4.symm, fun u3 x3 w3 e3 => ?_⟩
      · rw [List.nodup_append]
        exact ⟨T.nd, by simp, fun a ha b hb => by rw [List.mem_singleton.mp hb]; exact fun z => m (z ▸ ha)⟩
      · rcases List.mem_append.mp hz with k | k
        · exact T.lt z k
        · rw [List.mem_singleton.mp k, ← lA]; exact lo1
      · rcases List.eq_nil_or_concat w3 with rfl | ⟨w4, z4, rfl⟩
        · have e5 := List.append_inj' e3 rfl
          have ex : x3 = y := (List.cons.inj e5.2).1.symm
          rw [← e3, ex, e4]
          exact ⟨U2, safe⟩
        · rw [List.concat_eq_append, show u3 ++ x3 :: (w4 ++ [z4]) = (u3 ++ x3 :: w4) ++ [z4] by simp] at e3
          exact T.pre u3 x3 w4 (List.append_inj' e3 rfl).1
  · refine ⟨p, ?_⟩
    unfold stp
    rw [if_neg f]
    exact T
/-- all that is reached by running part of the script ends alike -/
def Safe (L : List Ln) (es : List Int) : Prop := ∀ i, i ≤ L.length → run L (run (L.take i) es) = run L es
theorem trk_run {L : List Ln} {c e : Nat} {es : List Int} (Re : Rg es) (ca : ∀ r ∈ L, CaL es.length r) (U : Uni c e es) (safe : Safe L es) : ∀ i, i ≤ L.length → ∃ p, Trk L c es (run L es) p (run (L.take i) es)
  | 0, _ => ⟨[e], by simp, by simp, fun x hx => by rw [List.mem_singleton.mp hx]; exact U.le, rfl, fun u x w e2 => by
    have : u = [] ∧ x = e ∧ w = [] := by
      cases u with
      | nil => cases e2; exact ⟨rfl, rfl, rfl⟩
      | cons a u => have := (List.cons.inj e2).2; simp at this
    obtain ⟨rfl, rfl, rfl⟩ := this
    exact ⟨U, by have := safe 0 (Nat.zero_le _); exact this⟩⟩
  | i + 1, h => by
    obtain ⟨p, T⟩ := trk_run Re ca U safe i (by omega)
    have hi : i < L.length := by omega
    have et : L.take (i + 1) = L.take i ++ [L[i]] := take_next hi
    have sf := safe (i + 1) h
    rw [et, run_snoc] at sf ⊢
    exact trk_step Re ca T (List.getElem_mem hi) (run_rg _ es Re fun r hr => (ca r (List.mem_of_mem_take hr)).1) sf
theorem safe_rings {L : List Ln} {es : List Int} (Re : Rg es) (nd : (full es).Nodup) (ca : ∀ r ∈ L, CaL es.length r) (safe : Safe L es) (one : es.count (-1) = 1) (m : mono es) : rngs es (run L es) = [] := by
  obtain ⟨c, e, U⟩ := uni_of one m
  obtain ⟨p, T⟩ := trk_run Re ca U safe L.length (Nat.le_refl _)
  rw [List.take_length] at T
  have R := ren_run nd (fun r hr => (ca r hr).1) (cln_care L es Re ca)
  have ne := T.ne
  cases p with
  | nil => exact absurd rfl ne
  | cons x r => exact path_ring R T.nd T.lt T.eq
/-- what a safe careful script tells of its ends -/
structure Saf (es fs : List Int) : Prop where
  f : es ≠ fs → (-1 : Int) ∈ es
  a : codes es = codes fs → es = fs
  r : es.count (-1) = 1 → mono es → rngs es fs = []
theorem saf_of {L : List Ln} {es : List Int} (Re : Rg es) (nd : (full es).Nodup) (ca : ∀ r ∈ L, CaL es.length r) (safe : Safe L es) : Saf es (run L es) :=
  ⟨fun n => Classical.byContradiction fun k => n (run_full L Re ca k).symm, fun e => run_alike Re ca (by have := safe L.length (Nat.le_refl _); rwa [List.take_length] at this) e, safe_rings Re nd ca safe⟩
end RH
/-! for k40: no fewer lines fire than values move and rings are -/
namespace RH
open PySem PySem.Spec PyProof.Rows L2 RL RQ RV Rv
theorem filt_le {α : Type} {P Q : α → Bool} : ∀ (l : List α), (∀ b ∈ l, P b = true → Q b = true) → (l.filter P).length ≤ (l.filter Q).length
  | [], _ => Nat.le_refl _
  | a :: l, h => by
    have ih := filt_le l fun b hb => h b (List.mem_cons_of_mem _ hb)
    by_cases z : P a = true
    · rw [List.filter_cons_of_pos z, List.filter_cons_of_pos (h a (List.mem_cons_self ..) z), List.length_cons, List.length_cons]; omega
    · rw [List.filter_cons_of_neg z]
      refine Nat.le_trans ih ?_
      rw [List.filter_cons]
      split
      · rw [List.length_cons]; omega
      · exact Nat.le_refl _
theorem filt_le1 {P Q : Nat → Bool} {b0 : Nat} : ∀ (l : List Nat), l.Nodup → (∀ b ∈ l, P b = true → Q b = true ∨ b = b0) → (l.filter P).length ≤ (l.filter Q).length + 1
  | [], _, _ => Nat.zero_le _
  | a :: l, nd, h => by
    obtain ⟨na, nl⟩ := List.nodup_cons.mp nd
    by_cases e : a = b0
    · have ih := filt_le l fun b hb k => (h b (List.mem_cons_of_mem _ hb) k).resolve_right fun z => na (by rw [e, ← z]; exact hb)
      have h1 : ((a :: l).filter P).length ≤ (l.filter P).length + 1 := by
        rw [List.filter_cons]
        split
        · rw [List.length_cons]; exact Nat.le_refl _
        · omega
      have h2 : (l.filter Q).length ≤ ((a :: l).filter Q).length := by
        rw [List.filter_cons]
        split
        · rw [List.length_cons]; omega
        · exact Nat.le_refl _
      omega
    · have ih := filt_le1 l nl fun b hb k => h b (List.mem_cons_of_mem _ hb) k
      by_cases z : P a = true
      · have q := (h a (List.mem_cons_self ..) z).resolve_right e
        rw [List.filter_cons_of_pos z, List.filter_cons_of_pos q, List.length_cons, List.length_cons]; omega
      · rw [List.filter_cons_of_neg z]
        refine Nat.le_trans ih ?_
        rw [List.filter_cons]
        split
        · rw [List.length_cons]; omega
        · exact Nat.le_refl _
theorem fol_congr {g g' : Nat → Nat} : ∀ (k : Nat) (p : List Nat), p ≠ [] → (∀ x ∈ fol g k p, g x = g' x) → fol g k p = fol g' k p
  | 0, p, _, _ => rfl
  | k + 1, p, ne, h => by
    obtain ⟨q, eq⟩ := fol_pre (g := g) (k + 1) p
    have e := h (p.getLastD 0) (by rw [eq]; exact List.mem_append_left _ (last_mem ne))
    by_cases z : g (p.getLastD 0) ∈ p
    · rw [fol_stop z, fol_stop (by rw [← e]; exact z)]
    · rw [fol_step z, fol_step (by rw [← e]; exact z), ← e]
      rw [fol_step z] at h
      exact fol_congr k _ (by simp) h
section
variable {g fs : List Int} {t s : Nat}
theorem ren_mv (R : Ren g fs) (lt : t < g.length) (ls : s < g.length) (ft : g.getD t 0 = -1) : Ren (mv g t s) fs :=
  have p := mv_swp lt ls ft
  ⟨p.trans R.pm, (p.symm.filter _).nodup_iff.mp R.nd⟩
/-- a ring that the source is not on stays -/
theorem ring_stays (R : Ren g fs) (lt : t < g.length) (ls : s < g.length) (ft : g.getD t 0 = -1) {b : Nat} (hb : b < g.length) (r : IsR (G g fs) (Fo g fs b)) (ns : s ∉ Fo g fs b) : Fo (mv g t s) fs b = Fo g fs b ∧ IsR (G (mv g t s) fs) (Fo (mv g t s) fs b) := by
  have R2 := ren_mv R lt ls ft
  have eG : ∀ x ∈ Fo g fs b, G g fs x = G (mv g t s) fs x := fun x hx => by
    obtain ⟨y, hy, A⟩ := ring_next R hb r hx
    have fy : g.getD y 0 ≠ -1 := by rw [← A.eq]; exact A.fu
    have yt : t ≠ y := fun e => fy (by rw [← e]; exact ft)
    have ys : s ≠ y := fun e => ns (by rw [e]; exact hy)
    have A2 : Ar (mv g t s) fs x y := ⟨by rw [mv_len]; exact A.l1, by rw [mv_len]; exact A.l2, A.ne, A.fu, by rw [mv_at lt ls, if_neg ys, if_neg yt]; exact A.eq⟩
    rw [A.right R, A2.right R2]
  have e : Fo g fs b = Fo (mv g t s) fs b := by
    unfold Fo F
    rw [mv_len]
    exact fol_congr _ _ (by simp) eG
  refine ⟨e.symm, ?_⟩
  rw [← e]
  obtain ⟨P, _⟩ := fo_p R hb
  exact ⟨r.1, by rw [← eG _ (last_mem P.ne)]; exact r.2.1, r.2.2⟩
def mvN (g fs : List Int) : Nat := ((List.range g.length).filter fun b => !decide (fs.getD b 0 = g.getD b 0) && !decide (fs.getD b 0 = -1)).length
theorem mvA_len : (mvA g fs g.length).length = mvN g fs := by unfold mvA mvN; rw [List.length_map]
def phi (g fs : List Int) : Nat := mvN g fs + (rngs g fs).length
theorem rngs_tops : (rngs g fs).length = (tops g fs g.length).length := by unfold rngs; rw [List.length_map]
theorem phi_step (R : Ren g fs) (lt : t < g.length) (ls : s < g.length) (ft : g.getD t 0 = -1) (ff : g.getD s 0 ≠ -1) : phi g fs ≤ phi (mv g t s) fs + 1 := by
  have R2 := ren_mv R lt ls ft
  unfold phi
  rw [rngs_tops, rngs_tops]
  unfold mvN
  rw [mv_len]
  by_cases on : ∃ b, b ∈ tops g fs g.length ∧ s ∈ Fo g fs b
  · obtain ⟨b0, hb0, hs⟩ := on
    have a : (tops g fs g.length).length ≤ (tops (mv g t s) fs g.length).length + 1 := by
      unfold tops
      refine filt_le1 (b0 := b0) _ List.nodup_range fun b hb k => ?_
      rw [decide_eq_true_eq] at k
      by_cases z : s ∈ Fo g fs b
      · exact .inr (same_head R (List.mem_append_right _ (mem_tops.mpr ⟨List.mem_range.mp hb, k⟩)) (List.mem_append_right _ hb0) z hs)
      · exact .inl (decide_eq_true (ring_stays R lt ls ft (List.mem_range.mp hb) k z).2)
    have c : ((List.range g.length).filter fun b => !decide (fs.getD b 0 = g.getD b 0) && !decide (fs.getD b 0 = -1)).length ≤ ((List.range g.length).filter fun b => !decide (fs.getD b 0 = (mv g t s).getD b 0) && !decide (fs.getD b 0 = -1)).length := by
      obtain ⟨lb0, k0⟩ := mem_tops.mp hb0
      obtain ⟨x, Ax⟩ := led_in R lb0 k0 hs
      refine filt_le _ fun b hb k => ?_
      rw [Bool.and_eq_true] at k ⊢
      obtain ⟨k1, k2⟩ := k
      refine ⟨?_, k2⟩
      simp only [Bool.not_eq_true', decide_eq_false_iff_not] at k1 k2 ⊢
      intro e
      rw [mv_at lt ls] at e
      by_cases z : s = b
      · rw [if_pos z] at e; exact k2 e
      · rw [if_neg z] at e
        by_cases z2 : t = b
        · rw [if_pos z2] at e
          have xb : x = b := R.injF Ax.l1 (List.mem_range.mp hb) (Ax.eq.trans e.symm) Ax.fu
          have mt : t ∈ Fo g fs b0 := by
            rw [z2, ← xb]
            exact (cl_rg R lb0 k0 x s Ax).mpr hs
          obtain ⟨y, Ay⟩ := led_in R lb0 k0 mt
          exact Ay.fu (Ay.eq.trans ft)
        · rw [if_neg z2] at e; exact k1 e
    omega
  · have a : (tops g fs g.length).length ≤ (tops (mv g t s) fs g.length).length := by
      unfold tops
      refine filt_le _ fun b hb k => ?_
      rw [decide_eq_true_eq] at k
      exact decide_eq_true (ring_stays R lt ls ft (List.mem_range.mp hb) k fun z => on ⟨b, mem_tops.mpr ⟨List.mem_range.mp hb, k⟩, z⟩).2
    have c : ((List.range g.length).filter fun b => !decide (fs.getD b 0 = g.getD b 0) && !decide (fs.getD b 0 = -1)).length ≤ ((List.range g.length).filter fun b => !decide (fs.getD b 0 = (mv g t s).getD b 0) && !decide (fs.getD b 0 = -1)).length + 1 := by
      refine filt_le1 (b0 := t) _ List.nodup_range fun b hb k => ?_
      rw [Bool.and_eq_true] at k
      by_cases z2 : b = t
      · exact .inr z2
      refine .inl ?_
      rw [Bool.and_eq_true]
      refine ⟨?_, k.2⟩
      obtain ⟨k1, k2⟩ := k
      simp only [Bool.not_eq_true', decide_eq_false_iff_not] at k1 k2 ⊢
      intro e
      rw [mv_at lt ls] at e
      by_cases z : s = b
      · rw [if_pos z] at e; exact k2 e
      · rw [if_neg z, if_neg (fun w => z2 w.symm)] at e; exact k1 e
    omega
/-- nothing left to move -/
theorem phi_end (R : Ren fs fs) : phi fs fs = 0 := by
  unfold phi
  have a : mvN fs fs = 0 := by
    unfold mvN
    rw [List.length_eq_zero_iff, List.filter_eq_nil_iff]
    intro b _
    simp
  have c : rngs fs fs = [] := Classical.byContradiction fun ne => by
    obtain ⟨c, hc⟩ := List.exists_mem_of_ne_nil _ ne
    obtain ⟨b, hb, rfl⟩ := List.mem_map.mp hc
    obtain ⟨lb, k⟩ := mem_tops.mp hb
    obtain ⟨y, _, A⟩ := ring_next R lb k (List.mem_of_getElem? (fo_p R lb).1.hd)
    exact A.ne (R.inj A.l1 A.l2 A.eq A.fu)
  rw [a, c]; rfl
end
theorem bound : ∀ (ls : List Ln) {g : List Int}, (full g).Nodup → (∀ r ∈ ls, MvL g.length r) → Cln ls g → phi g (run ls g) ≤ cnt ls g
  | [], g, nd, _, _ => Nat.le_of_eq (phi_end ⟨.refl _, nd⟩)
  | r :: ls, g, nd, h, c => by
    have m := h r (List.mem_cons_self ..)
    have h2 : ∀ x ∈ ls, MvL (stp g r).length x := fun x hx => by rw [stp_len]; exact h x (List.mem_cons_of_mem _ hx)
    have R := ren_run nd h c
    rw [run_cons] at R ⊢
    show phi g (run ls (stp g r)) ≤ (if fir r g = true then 1 else 0) + cnt ls (stp g r)
    by_cases f : fir r g = true
    · have ft := c.1 f
      have es : stp g r = mv g r.t.toNat r.o.toNat := by unfold stp; rw [if_pos f]
      have nd2 : (full (stp g r)).Nodup := by
        rw [es]
        exact ((mv_swp m.tn m.on ft).symm.filter _).nodup_iff.mp nd
      have ih := bound ls nd2 h2 c.2
      have st := phi_step R m.tn m.on ft (fir_full f)
      rw [← es] at st
      rw [if_pos f]
      omega
    · have es : stp g r = g := by unfold stp; rw [if_neg f]
      rw [if_neg f, Nat.zero_add]
      have ih := bound ls (g := stp g r) (by rw [es]; exact nd) h2 c.2
      rw [es] at ih ⊢
      exact ih
end RH
/-! images by labels: arrangements, what is reached by moves (k42) -/
namespace RX
open RL
end RX
/-! the same with values: arrangements and what is reached (k42) -/
namespace Rv
open PySem PySem.Spec PyProof.Rows L2 RL RQ RV RX
abbrev WI := List Int × List (List Nat)
structure Lab (f : Nat → Int) (v kd : Nat) : Prop where
  f0 : f 0 = -1
  inj : ∀ a b, f a = f b → a = b
  rg : ∀ l, 1 ≤ l → l ≤ v → -1 ≤ f l ∧ f l ≤ 999 ∧ sg (f l) = 48 + kd
section
variable {f : Nat → Int} {v kd : Nat}
/-! rings -/
/-! arrangements -/
end
end Rv
/-! the search and the labels of an image (k42) -/
namespace Rv
open PySem PySem.Spec PyProof.Rows L2 RL RQ RV RX
section
variable {f : Nat → Int} {v kd : Nat}
end
/-! an image by its labels -/
end Rv
/-! rules and readings for k42: perm, factorial, a tuple made longer, len of a dict, ways -/
namespace Rv
open PySem PySem.Spec PyProof.Rows L2 RL RQ RV RX
/-! t + u, both known; u not empty -/
/-! len(d) -/
/-- an image as a key -/
def nkI (g : List Int) : NestedKey := .tup (g.map NestedKey.num)
theorem nkI_inj {a b : List Int} (h : nkI a = nkI b) : a = b := by
  unfold nkI at h
  injection h with h
  exact (List.map_inj_right fun x y e => by injection e).mp h
theorem gall_nums {H : Hp} : ∀ g : List Int, GAll H (g.map NestedKey.num) (g.map V.int)
  | [] => .nil
  | x :: g => .cons (.num x) (gall_nums g)
theorem depth_numsI : ∀ g : List Int, NestedKey.depthAll (g.map NestedKey.num) ≤ 1
  | [] => by simp [NestedKey.depthAll]
  | x :: g => by
    have := depth_numsI g
    simp [NestedKey.depthAll, NestedKey.depth]
    omega
theorem gk_tg {H : Hp} {b : Addr} {g : List Int} (h : TG H b g) : GK H (nkI g) b := by
  refine ⟨.tup (xs := g.map V.int) ?_ (gall_nums g), ?_⟩
  · rcases h with h | ⟨o, h, _⟩
    · exact .inl h
    · exact .inr ⟨o, h⟩
  · have := depth_numsI g
    unfold nkI
    simp [NestedKey.depth]
    omega
structure MetI (P : Program) (w : World) (H : Hp) (d : Addr) (met : List (List Int)) : Prop where
  ex : ∃ xs, Dg P w H d xs ∧ keysG xs = met.map nkI
theorem MetI.same {P : Program} {w : World} {H H' : Hp} {d : Addr} {met : List (List Int)} (m : MetI P w H d met) (S : Same H H') : MetI P w H' d met := by
  obtain ⟨xs, h, e⟩ := m.ex
  exact ⟨xs, h.same S, e⟩
theorem MetI.mutL {P : Program} {w : World} {H : Hp} {d l : Addr} {met : List (List Int)} {vs : List V} {o : HO} (m : MetI P w H d met) (hl : H l = some (.lst vs)) : MetI P w (upd H l o) d met := by
  obtain ⟨xs, h, e⟩ := m.ex
  exact ⟨xs, h.mut (fun k => by have := h.at_; rw [k, hl] at this; cases this) (Kf.mut hl (by intro ys z; cases z) (by intro a v z; cases z)), e⟩
theorem key_len {P : Program} {w : World} {H : Hp} {d : Addr} {met : List (List Int)} {xs : List GE} (e : keysG xs = met.map nkI) : xs.length = met.length := by
  have := congrArg List.length e
  unfold keysG at this
  rwa [List.length_map, List.length_map] at this
theorem MetI.put {P : Program} {w : World} {H : Hp} {Q : Hp → Prop} {d b : Addr} {met : List (List Int)} {g : List Int} {v : V} (m : MetI P w H d met) (hb : TG H b g) (hl : met.length < 100000)
    (q : ∀ H2, (∃ o, H2 = upd H d o) → (∃ xs, H d = some (DGO P w d xs)) → MetI P w H2 d (if g ∈ met then met else met ++ [g]) → Q H2) : PtG P w (.ref d) (.ref b) v H Q := by
  obtain ⟨xs, h, e⟩ := m.ex
  have lx := key_len (P := P) (w := w) (H := H) (d := d) e
  refine rd_PtG h (gk_tg hb) (by omega) fun H2 e2 _ g2 => q H2 ⟨_, e2⟩ ⟨xs, h.at_⟩ ⟨_, g2, ?_⟩
  have mi : nkI g ∈ keysG xs ↔ g ∈ met := by
    rw [e, List.mem_map]
    exact ⟨fun ⟨a, ha, k⟩ => by rw [← nkI_inj k]; exact ha, fun k => ⟨g, k, rfl⟩⟩
  rw [keysG_put]
  by_cases k : g ∈ met
  · rw [if_pos k, if_pos (mi.mpr k), e]
  · rw [if_neg k, if_neg (fun z => k (mi.mp z)), e, List.map_append, List.map_singleton]
structure WaysAt (H : Hp) (W : Addr) (ws : List Addr) (ways : List WI) : Prop where
  len : ws.length = ways.length
  at_ : ∀ (i : Nat) u hU, ws[i]? = some u → ways[i]? = some hU → ∃ x y, u ≠ W ∧ y ≠ W ∧ H u = some (.lst [.ref x, .ref y]) ∧ TG H x hU.1 ∧ H y = some (.lst (hU.2.map fun c => V.str (txt c)))
/-! bounds -/
end Rv
/-! for k40: scripts in the heap, what was met, reasons of any make -/
namespace RH
open PySem PySem.Spec PyProof.Rows L2 RL RQ RV Rv
/-- a list of lines -/
def LsAt (H : Hp) (l : Addr) (rs : List Ln) : Prop := ∃ as : List Addr, H l = some (.lst (as.map V.ref)) ∧ TupsAt H as (rows rs)
theorem LsAt.same {H H' : Hp} {l : Addr} {rs : List Ln} (h : LsAt H l rs) (S : Same H H') : LsAt H' l rs := by
  obtain ⟨as, h1, h2⟩ := h
  exact ⟨as, S _ _ h1, h2.same S⟩
theorem LsAt.wg {B : Box} {H H' : Hp} {l : Addr} {rs : List Ln} (h : LsAt H l rs) (hB : IsBk B) (w : Wg B H H') : LsAt H' l rs := by
  obtain ⟨as, h1, h2⟩ := h
  exact ⟨as, w.lst (bk_ne hB w.i0 h1) h1, TupsAt.wg w h2⟩
theorem MetI.has {P : Program} {w : World} {H : Hp} {Q : Bool → Prop} {d b : Addr} {met : List (List Int)} {g : List Int} (m : MetI P w H d met) (hb : TG H b g) (q : Q (decide (g ∈ met))) : InG P w (.ref d) (.ref b) H Q := by
  obtain ⟨xs, h, e⟩ := m.ex
  refine rd_InG h (gk_tg hb) ?_
  have mi : nkI g ∈ keysG xs ↔ g ∈ met := by
    rw [e, List.mem_map]
    exact ⟨fun ⟨a, ha, k⟩ => by rw [← nkI_inj k]; exact ha, fun k => ⟨g, k, rfl⟩⟩
  rw [show decide (nkI g ∈ keysG xs) = decide (g ∈ met) from decide_eq_decide.mpr mi]
  exact q
/-! reasons -/
inductive It where
  | num (k : Int)
  | row (p : List Nat)
  | lrow (p : List Nat)
def ItAt (H : Hp) (v : V) : It → Prop
  | .num k => v = .int k
  | .row p => ∃ a, v = .ref a ∧ H a = some (.tup (nvs p))
  | .lrow p => ∃ a, v = .ref a ∧ H a = some (.lst (nvs p))
def itD : It → PyData
  | .num k => .int k
  | .row p => rowD p
  | .lrow p => .list ((niz p).map PyData.int)
def ItsAt (H : Hp) (xs : List V) (its : List It) : Prop := xs.length = its.length ∧ ∀ (i : Nat) x t, xs[i]? = some x → its[i]? = some t → ItAt H x t
theorem ItAt.same {H H' : Hp} {v : V} {t : It} (h : ItAt H v t) (S : Same H H') : ItAt H' v t := by
  cases t with
  | num k => exact h
  | row p => obtain ⟨a, e, k⟩ := h; exact ⟨a, e, S _ _ k⟩
  | lrow p => obtain ⟨a, e, k⟩ := h; exact ⟨a, e, S _ _ k⟩
theorem ItsAt.same {H H' : Hp} {xs : List V} {its : List It} (h : ItsAt H xs its) (S : Same H H') : ItsAt H' xs its := ⟨h.1, fun i x t a b => (h.2 i x t a b).same S⟩
theorem ItAt.dp {K : PySem.W.Frag} {H : Hp} {v : V} {t : It} (h : ItAt H v t) : Dp K H v (itD t) := by
  cases t with
  | num k => rw [show v = .int k from h]; exact .int k
  | row p => obtain ⟨a, e, k⟩ := h; rw [e]; exact .tup (SqT.of k) (dp_ints (niz p))
  | lrow p => obtain ⟨a, e, k⟩ := h; rw [e]; exact .lst (SqL.of k) (dp_ints (niz p))
theorem it_sh (t : It) : Sh 1 (itD t) := by
  cases t with
  | num k => exact Sh.int k
  | row p => exact sh_row p
  | lrow p =>
    refine Sh.list fun d hd => ?_
    obtain ⟨x, _, rfl⟩ := List.mem_map.mp hd
    exact Sh.int x
theorem dp_its {K : PySem.W.Frag} {H : Hp} : ∀ {xs : List V} {its : List It}, ItsAt H xs its → DpAll K H xs (its.map itD)
  | [], [], _ => .nil
  | [], t :: its, h => by have := h.1; simp at this
  | x :: xs, [], h => by have := h.1; simp at this
  | x :: xs, t :: its, h => .cons (h.2 0 x t rfl rfl).dp (dp_its ⟨by have := h.1; simpa using this, fun i y s a b => h.2 (i + 1) y s a b⟩)
/-- is it one of the rows -/
def isRow (ps : List (List Nat)) : It → Bool
  | .row p => decide (p ∈ ps)
  | _ => false
theorem any_it {ps : List (List Nat)} {t : It} : ((ps.map rowD).any fun z => PyData.eqv z (itD t)) = isRow ps t := by
  cases t with
  | num k =>
    show _ = false
    rw [Bool.eq_false_iff]
    intro h
    rw [List.any_eq_true] at h
    obtain ⟨d, hd, e⟩ := h
    obtain ⟨x, _, rfl⟩ := List.mem_map.mp hd
    exact Bool.noConfusion e
  | row p => exact any_rows
  | lrow p =>
    show _ = false
    rw [Bool.eq_false_iff]
    intro h
    rw [List.any_eq_true] at h
    obtain ⟨d, hd, e⟩ := h
    obtain ⟨x, _, rfl⟩ := List.mem_map.mp hd
    exact Bool.noConfusion e
section
variable {K : PySem.W.Frag} {H : Hp} {Q : VK} {l : Addr} {bs : List Addr} {ps : List (List Nat)} {v : V} {t : It}
theorem rd_inIt (h : ItAt H v t) (hl : H l = some (.lst (bs.map V.ref))) (tb : NRows H bs ps) (q : Q (.bl (isRow ps t)) H) : rInD K v (.ref l) H Q :=
  ⟨itD t, ps.map rowD, h.dp, .lst (SqL.of hl) (dp_rws tb), (it_sh t).shaped (by decide), (sh_rows ps).shaped (by decide), by rw [any_it]; exact q⟩
theorem rd_ninIt (h : ItAt H v t) (hl : H l = some (.lst (bs.map V.ref))) (tb : NRows H bs ps) (q : Q (.bl (!isRow ps t)) H) : rNotInD K v (.ref l) H Q :=
  ⟨itD t, ps.map rowD, h.dp, .lst (SqL.of hl) (dp_rws tb), (it_sh t).shaped (by decide), (sh_rows ps).shaped (by decide), by rw [any_it]; exact q⟩
end
inductive Wt where
  | non
  | lst (its : List It)
  | tup (its : List It)
def WtAt (H : Hp) (v : V) : Wt → Prop
  | .non => v = .non
  | .lst its => ∃ a xs, v = .ref a ∧ H a = some (.lst xs) ∧ ItsAt H xs its
  | .tup its => ∃ a xs, v = .ref a ∧ H a = some (.tup xs) ∧ ItsAt H xs its
def wtD : Wt → PyData
  | .non => .none
  | .lst its => .list (its.map itD)
  | .tup its => .tuple (its.map itD)
inductive Rs where
  | non
  | nil
  | num (k : Int)
  | word (s : Str)
  | pair (s : Str) (w : Wt)
def RsAt (H : Hp) (v : V) : Rs → Prop
  | .non => v = .non
  | .nil => ∃ a, v = .ref a ∧ H a = some (.tup [])
  | .num k => ∃ a, v = .ref a ∧ H a = some (.tup [.int k])
  | .word s => ∃ a, v = .ref a ∧ H a = some (.tup [.str s]) ∧ PyData.strOk s = true
  | .pair s w => ∃ a x, v = .ref a ∧ H a = some (.tup [.str s, x]) ∧ PyData.strOk s = true ∧ WtAt H x w
def rsD : Rs → PyData
  | .non => .none
  | .nil => .tuple []
  | .num k => .tuple [.int k]
  | .word s => .tuple [.str s]
  | .pair s w => .tuple [.str s, wtD w]
theorem WtAt.same {H H' : Hp} {v : V} {w : Wt} (h : WtAt H v w) (S : Same H H') : WtAt H' v w := by
  cases w with
  | non => exact h
  | lst its => obtain ⟨a, xs, e, k, t⟩ := h; exact ⟨a, xs, e, S _ _ k, t.same S⟩
  | tup its => obtain ⟨a, xs, e, k, t⟩ := h; exact ⟨a, xs, e, S _ _ k, t.same S⟩
theorem RsAt.same {H H' : Hp} {v : V} {z : Rs} (h : RsAt H v z) (S : Same H H') : RsAt H' v z := by
  cases z with
  | non => exact h
  | nil => obtain ⟨a, e, k⟩ := h; exact ⟨a, e, S _ _ k⟩
  | num k => obtain ⟨a, e, k⟩ := h; exact ⟨a, e, S _ _ k⟩
  | word s => obtain ⟨a, e, k, o⟩ := h; exact ⟨a, e, S _ _ k, o⟩
  | pair s w => obtain ⟨a, x, e, k, o, t⟩ := h; exact ⟨a, x, e, S _ _ k, o, t.same S⟩
theorem WtAt.dp {K : PySem.W.Frag} {H : Hp} {v : V} {w : Wt} (h : WtAt H v w) : Dp K H v (wtD w) := by
  cases w with
  | non => rw [show v = .non from h]; exact .non
  | lst its => obtain ⟨a, xs, e, k, t⟩ := h; rw [e]; exact .lst (SqL.of k) (dp_its t)
  | tup its => obtain ⟨a, xs, e, k, t⟩ := h; rw [e]; exact .tup (SqT.of k) (dp_its t)
theorem wt_sh (w : Wt) : Sh 2 (wtD w) := by
  cases w with
  | non => exact Sh.non
  | lst its =>
    refine Sh.list fun d hd => ?_
    obtain ⟨t, _, rfl⟩ := List.mem_map.mp hd
    exact it_sh t
  | tup its =>
    refine Sh.tuple fun d hd => ?_
    obtain ⟨t, _, rfl⟩ := List.mem_map.mp hd
    exact it_sh t
theorem RsAt.dp {K : PySem.W.Frag} {H : Hp} {v : V} {z : Rs} (h : RsAt H v z) : Dp K H v (rsD z) ∧ Sh 3 (rsD z) := by
  cases z with
  | non => rw [show v = .non from h]; exact ⟨.non, Sh.non⟩
  | nil => obtain ⟨a, e, k⟩ := h; rw [e]; exact ⟨.tup (SqT.of k) .nil, Sh.tuple fun d hd => nomatch hd⟩
  | num k => obtain ⟨a, e, k⟩ := h; rw [e]; exact ⟨.tup (SqT.of k) (.cons (.int _) .nil), Sh.tuple fun d hd => by rw [List.mem_singleton.mp hd]; exact Sh.int _⟩
  | word s => obtain ⟨a, e, k, o⟩ := h; rw [e]; exact ⟨.tup (SqT.of k) (.cons (.str _) .nil), sh_one o⟩
  | pair s w =>
    obtain ⟨a, x, e, k, o, t⟩ := h
    rw [e]
    refine ⟨.tup (SqT.of k) (.cons (.str _) (.cons t.dp .nil)), Sh.tuple fun d hd => ?_⟩
    simp only [List.mem_cons, List.not_mem_nil, or_false] at hd
    rcases hd with rfl | rfl
    · exact Sh.str o
    · exact wt_sh w
/-- is it this word alone -/
def isW (t : Str) : Rs → Bool
  | .word s => decide (s = t)
  | _ => false
theorem eqv_word (z : Rs) (t : Str) : PyData.eqv (rsD z) (.tuple [.str t]) = isW t z := by
  cases z with
  | non => rfl
  | nil => rfl
  | num k => rfl
  | word s =>
    show PyData.eqv (.tuple [.str s]) (.tuple [.str t]) = decide (s = t)
    simp [PyData.eqv, PyData.eqvAll]
    rfl
  | pair s w =>
    show PyData.eqv (.tuple [.str s, wtD w]) (.tuple [.str t]) = false
    simp [PyData.eqv, PyData.eqvAll]
section
variable {K : PySem.W.Frag} {H : Hp} {Q : VK} {v : V} {z : Rs} {t : Addr} {s : Str}
theorem rd_eqWord (h : RsAt H v z) (h2 : H t = some (.tup [.str s])) (ok : PyData.strOk s = true) (q : Q (.bl (isW s z)) H) : rEqD K v (.ref t) H Q :=
  ⟨_, _, (RsAt.dp (K := K) h).1, .tup (SqT.of h2) (.cons (.str _) .nil), (RsAt.dp (K := K) h).2.shaped (by decide), (sh_one (k := 0) ok).shaped (by decide), by rw [eqv_word]; exact q⟩
end
/-- does it tell rings, all of them right -/
def tellsW (ps : List (List Nat)) : Wt → Bool
  | .tup its => !its.isEmpty && its.all (isRow ps)
  | _ => false
def tells (ps : List (List Nat)) : Rs → Bool
  | .pair s w => decide (s = sRings) && tellsW ps w
  | _ => false
/-- what judging a reason gives -/
def jvR (z : Rs) (es fs : List Int) : Bool :=
  if es = fs then false else if isW sFull z = true then decide (-1 ∉ es) else if isW sAlike z = true then decide (codes es = codes fs) else
    tells (rngs es fs) z && (decide (es.count (-1) = 1) && decide (mono es))
theorem Saf.jv {es fs : List Int} (s : Saf es fs) (z : Rs) : jvR z es fs = false := by
  unfold jvR
  by_cases e : es = fs
  · rw [if_pos e]
  rw [if_neg e]
  by_cases a : isW sFull z = true
  · rw [if_pos a, decide_eq_false (fun k => k (s.f e))]
  rw [if_neg a]
  by_cases b : isW sAlike z = true
  · rw [if_pos b, decide_eq_false (fun k => e (s.a k))]
  rw [if_neg b]
  by_cases one : es.count (-1) = 1
  · by_cases m : mono es
    · have r := s.r one m
      rw [r]
      have : tells [] z = false := by
        cases z with
        | pair w t =>
          cases t with
          | tup its =>
            cases its with
            | nil => simp [tells, tellsW]
            | cons i r =>
              have : isRow [] i = false := by cases i <;> rfl
              simp [tells, tellsW, this]
          | _ => simp [tells, tellsW]
        | _ => rfl
      rw [this]; rfl
    · rw [decide_eq_false m, Bool.and_false, Bool.and_false]
  · rw [decide_eq_false one, Bool.false_and, Bool.and_false]
theorem Saf.v {es fs : List Int} (s : Saf es fs) : vdt es fs = if crowd es fs ∧ es ≠ fs then 4 else 0 := by
  unfold vdt
  by_cases e : es = fs
  · rw [if_pos e, if_neg (fun k => k.2 e)]
  rw [if_neg e, if_neg (fun k => k (s.f e)), if_neg (fun k => e (s.a k))]
  by_cases c : crowd es fs
  · rw [if_neg (fun k => k c), if_neg (fun m => c.2 (s.r c.1 m)), if_pos (show crowd es fs ∧ es ≠ fs from ⟨c, e⟩)]
  · rw [if_pos c, if_neg (fun k => c k.1)]
end RH
namespace RH
open PySem PySem.Spec PyProof.Rows L2 RL RQ RV Rv
theorem MvL.ex {n : Nat} {r : Ln} (m : MvL n r) : ∃ (t s : Nat) (gs : List Nat), r = ⟨sMove, (t : Int), (s : Int), gs⟩ ∧ t < n ∧ s < n ∧ s ≠ t ∧ (gs = [] ∨ gs.length = n) := by
  have a := m.tn
  have b := m.on
  have c := m.no
  refine ⟨r.t.toNat, r.o.toNat, r.g, ?_, a, b, c, m.gl⟩
  have t0 := m.t0
  have o0 := m.o0
  cases r with
  | mk w t o g =>
    simp only at t0 o0 ⊢
    rw [show w = sMove from m.w, Int.toNat_of_nonneg t0, Int.toNat_of_nonneg o0]
theorem fir_no {t s : Nat} {gs : List Nat} {g : List Int} (h : g.getD s 0 = -1) : fir ⟨sMove, (t : Int), (s : Int), gs⟩ g = false := by
  show (!decide (g.getD s 0 = -1) && _) = false
  rw [decide_eq_true h]; rfl
theorem fir_bad {t s : Nat} {gs : List Nat} {g : List Int} (l : gs.length ≤ g.length) {j : Nat} (hj : j < gs.length) (h : fitC (gs.getD j 0) ((codes g).getD j 0) = false) : fir ⟨sMove, (t : Int), (s : Int), gs⟩ g = false := by
  show (_ && fitsL gs (codes g)) = false
  have : fitsL gs (codes g) = false := Bool.eq_false_iff.mpr fun k => by
    have := (fits_iff (by rw [codes_len]; exact l)).mp k j hj
    rw [RV.getD_getN hj, RV.getD_getN (by rw [codes_len]; omega)] at h
    rw [h] at this
    cases this
  rw [this, Bool.and_false]
theorem fir_yes {t s : Nat} {gs : List Nat} {g : List Int} (l : gs.length ≤ g.length) (h : g.getD s 0 ≠ -1) (k : ∀ j, j < gs.length → fitC (gs.getD j 0) ((codes g).getD j 0) = true) : fir ⟨sMove, (t : Int), (s : Int), gs⟩ g = true := by
  show (!decide (g.getD s 0 = -1) && fitsL gs (codes g)) = true
  rw [decide_eq_false h, (fits_iff (by rw [codes_len]; exact l)).mpr fun j hj => by
    have := k j hj
    rwa [RV.getD_getN hj, RV.getD_getN (by rw [codes_len]; omega)] at this]; rfl
theorem stp_if {t s : Nat} {gs : List Nat} {g : List Int} : stp g ⟨sMove, (t : Int), (s : Int), gs⟩ = if fir ⟨sMove, (t : Int), (s : Int), gs⟩ g = true then mv g t s else g := rfl
theorem MvL.mk' {n t s : Nat} {gs : List Nat} (ht : t < n) (hs : s < n) (ne : s ≠ t) (gl : gs = [] ∨ gs.length = n) : MvL n ⟨sMove, (t : Int), (s : Int), gs⟩ :=
  ⟨rfl, Int.natCast_nonneg t, by show (t : Int) < n; omega, Int.natCast_nonneg s, by show (s : Int) < n; omega, by show (s : Int) ≠ t; omega, gl⟩
end RH

namespace RH
open PySem PySem.Spec PyProof.Rows L2 RL RQ RV Rv
theorem ext_keep {P : Program} {w : World} {H : Hp} {M c : Addr} {xs : List GE} {o u : HO} (hM : H M = some (DGO P w M xs)) (hc : H c = some u) (nu : ∀ xs, u ≠ DGO P w M xs) : upd H M o c = some u :=
  (upd_ne fun k => by rw [k, hM] at hc; exact nu xs (Option.some.inj hc).symm).trans hc
theorem GT.mutD {P : Program} {w : World} {H : Hp} {M a : Addr} {xs : List GE} {o : HO} {es : List Int} (h : GT H a es) (hM : H M = some (DGO P w M xs)) : GT (upd H M o) a es := by
  obtain ⟨u, h1, h2⟩ := h
  exact ⟨u, ext_keep hM h1 (fun xs k => by cases k), h2⟩
theorem ImsG.mutD {P : Program} {w : World} {H : Hp} {M : Addr} {xs : List GE} {o : HO} {as : List Addr} {gs : List (List Int)} (h : ImsG H as gs) (hM : H M = some (DGO P w M xs)) : ImsG (upd H M o) as gs := ⟨h.1, fun i x g a b => GT.mutD (h.2 i x g a b) hM⟩
end RH
namespace RH
open PySem PySem.Spec PyProof.Rows L2 RL RQ RV Rv
theorem mk13 {d : Nat} (h : d < 13) : ∃ c : Nat, atI (Str.ofString "-.*0123456789").cps.toList (d : Int) = some c ∧ c < 128 := by
  have : ∀ d : Nat, d < 13 → ((atI (Str.ofString "-.*0123456789").cps.toList (d : Int)).any fun c => decide (c < 128)) = true := by decide +kernel
  have k := this d h
  rw [Option.any_eq_true] at k
  obtain ⟨c, e1, e2⟩ := k
  exact ⟨c, e1, of_decide_eq_true e2⟩
theorem ones_at {cs : List Nat} {i : Nat} (h : i < cs.length) : atI (cs.map fun c => V.str (one c)) (i : Int) = some (.str (one (cs.getD i 0))) := atI_nat (by
  rw [List.getElem?_map, List.getD_eq_getElem?_getD, List.getElem?_eq_getElem h]; rfl)
theorem rows_snoc (rs : List Ln) (r : Ln) : rows (rs ++ [r]) = rows rs ++ [r.vals] := by unfold rows; rw [List.map_append]; rfl
end RH
namespace RH
open PySem PySem.Spec PyProof.Rows L2 RL RQ RV Rv
theorem other_blk {t d n : Nat} (ht : t < n) (hd : d + 1 < n) : ∃ s : Nat, ((t : Int) + 1 + (d : Int)).fmod (n : Int) = (s : Int) ∧ s < n ∧ s ≠ t := by
  rw [Int.fmod_eq_emod_of_nonneg _ (by omega)]
  by_cases k : t + 1 + d < n
  · exact ⟨t + 1 + d, by rw [Int.emod_eq_of_lt (by omega) (by omega)]; omega, k, by omega⟩
  · refine ⟨t + 1 + d - n, ?_, by omega, by omega⟩
    rw [show (t : Int) + 1 + (d : Int) = ((t : Int) + 1 + (d : Int) - n) + n by omega, Int.add_emod_right, Int.emod_eq_of_lt (by omega) (by omega)]
    omega
end RH

namespace RH
open PySem PySem.Spec PyProof.Rows L2 RL RQ RV Rv
/-- items too many are never told -/
def itsOf : Wt → List It
  | .tup its => its
  | .lst its => its
  | .non => []
def Few (z : Rs) : Prop := ∀ s w, z = .pair s w → (itsOf w).length ≤ 40
theorem jvR_eq {z : Rs} {es fs : List Int} (e : es = fs) : jvR z es fs = false := if_pos e
theorem jvR_non {es fs : List Int} : jvR .non es fs = false := by
  unfold jvR
  split
  · rfl
  · rw [if_neg (by simp [isW]), if_neg (by simp [isW])]; rfl
theorem jvR_full {z : Rs} {es fs : List Int} (e : es ≠ fs) (w : isW sFull z = true) : jvR z es fs = decide (-1 ∉ es) := by unfold jvR; rw [if_neg e, if_pos w]
theorem jvR_alike {z : Rs} {es fs : List Int} (e : es ≠ fs) (w : isW sFull z = false) (w2 : isW sAlike z = true) : jvR z es fs = decide (codes es = codes fs) := by unfold jvR; rw [if_neg e, if_neg (by rw [w]; decide), if_pos w2]
theorem jvR_rest {z : Rs} {es fs : List Int} (e : es ≠ fs) (w : isW sFull z = false) (w2 : isW sAlike z = false) : jvR z es fs = (tells (rngs es fs) z && (decide (es.count (-1) = 1) && decide (mono es))) := by unfold jvR; rw [if_neg e, if_neg (by rw [w]; decide), if_neg (by rw [w2]; decide)]
end RH
namespace RH
open PySem PySem.Spec PyProof.Rows L2 RL RQ RV Rv
section
variable {K : PySem.W.Frag} {H : Hp} {Q : VK} {p p2 : Addr} {xs : List V} {its : List It}
theorem rd_eqIts0 (h : H p = some (.tup xs)) (t : ItsAt H xs its) (h2 : H p2 = some (.tup [])) (q : Q (.bl (decide (its = []))) H) : rEqD K (.ref p) (.ref p2) H Q := by
  refine ⟨.tuple (its.map itD), .tuple [], .tup (SqT.of h) (dp_its t), .tup (SqT.of h2) .nil, (wt_sh (.tup its)).shaped (by decide), by decide, ?_⟩
  cases its with
  | nil => exact q
  | cons a b => exact q
theorem rd_neIts0 (h : H p = some (.lst xs)) (t : ItsAt H xs its) (h2 : H p2 = some (.lst [])) (q : Q (.bl (!decide (its = []))) H) : rNeD K (.ref p) (.ref p2) H Q := by
  refine ⟨.list (its.map itD), .list [], .lst (SqL.of h) (dp_its t), .lst (SqL.of h2) .nil, (wt_sh (.lst its)).shaped (by decide), by decide, ?_⟩
  cases its with
  | nil => exact q
  | cons a b => exact q
end
theorem ItsAt.snoc {H : Hp} {xs : List V} {its : List It} {x : V} {t : It} (h : ItsAt H xs its) (k : ItAt H x t) : ItsAt H (xs ++ [x]) (its ++ [t]) := by
  refine ⟨by rw [List.length_append, List.length_append, h.1]; rfl, fun i y s a b => ?_⟩
  by_cases hi : i < xs.length
  · rw [List.getElem?_append_left hi] at a
    rw [List.getElem?_append_left (by rw [← h.1]; exact hi)] at b
    exact h.2 i y s a b
  · have li := (List.getElem?_eq_some_iff.mp a).1
    rw [List.length_append, List.length_singleton] at li
    have e : i = xs.length := by omega
    subst e
    rw [List.getElem?_append_right (Nat.le_refl _), Nat.sub_self] at a
    rw [h.1, List.getElem?_append_right (Nat.le_refl _), Nat.sub_self] at b
    cases a
    cases b
    exact k
def oddIts (ps : List (List Nat)) (its : List It) (i : Nat) : List It := (its.take i).filter fun t => !isRow ps t
theorem oddIts_next {ps : List (List Nat)} {its : List It} {i : Nat} {t : It} (h : its[i]? = some t) : oddIts ps its (i + 1) = oddIts ps its i ++ if (!isRow ps t) = true then [t] else [] := by
  obtain ⟨h1, h2⟩ := List.getElem?_eq_some_iff.mp h
  unfold oddIts
  rw [take_next h1, List.filter_append, h2]
  congr 1
  rw [List.filter_cons]
  rfl
theorem oddIts_len (ps : List (List Nat)) (its : List It) (i : Nat) : (oddIts ps its i).length ≤ its.length := by
  unfold oddIts
  have h1 := List.length_filter_le (fun t => !isRow ps t) (its.take i)
  have h3 : (its.take i).length ≤ its.length := by rw [List.length_take]; exact Nat.min_le_right ..
  omega
theorem oddIts_all {ps : List (List Nat)} {its : List It} (ne : its ≠ []) : (!decide (oddIts ps its its.length = [])) = !tellsW ps (.tup its) := by
  have : tellsW ps (.tup its) = its.all (isRow ps) := by
    cases its with
    | nil => exact absurd rfl ne
    | cons a b => rfl
  rw [this]
  congr 1
  rw [Bool.eq_iff_iff, decide_eq_true_eq, List.all_eq_true]
  unfold oddIts
  rw [List.take_length, List.filter_eq_nil_iff]
  simp
end RH
namespace RH
open PySem PySem.Spec PyProof.Rows L2 RL RQ RV Rv
theorem its_rows {H : Hp} {bs : List Addr} {ps : List (List Nat)} (t : NRows H bs ps) : ItsAt H (bs.map V.ref) (ps.map It.row) := by
  refine ⟨by rw [List.length_map, List.length_map, NRows.len t], fun i x it a b => ?_⟩
  rw [List.getElem?_map] at a b
  cases e : bs[i]? with
  | none => rw [e] at a; cases a
  | some c =>
    rw [e] at a
    cases a
    obtain ⟨p, e1, e2⟩ := NRows.get t e
    rw [e1] at b
    cases b
    exact ⟨c, rfl, e2⟩
theorem rs_tup {H : Hp} {a t : Addr} {s : Str} {xs : List V} {its : List It} (h : H a = some (.tup [.str s, .ref t])) (ok : PyData.strOk s = true) (ht : H t = some (.tup xs)) (k : ItsAt H xs its) (few : its.length ≤ 40) : ∃ z, RsAt H (.ref a) z ∧ Few z :=
  ⟨.pair s (.tup its), ⟨a, .ref t, rfl, h, ok, t, xs, rfl, ht, k⟩, fun s2 w e => by cases e; exact few⟩
theorem rs_lst {H : Hp} {a t : Addr} {s : Str} {xs : List V} {its : List It} (h : H a = some (.tup [.str s, .ref t])) (ok : PyData.strOk s = true) (ht : H t = some (.lst xs)) (k : ItsAt H xs its) (few : its.length ≤ 40) : ∃ z, RsAt H (.ref a) z ∧ Few z :=
  ⟨.pair s (.lst its), ⟨a, .ref t, rfl, h, ok, t, xs, rfl, ht, k⟩, fun s2 w e => by cases e; exact few⟩
theorem rs_word {H : Hp} {a : Addr} {s : Str} (h : H a = some (.tup [.str s])) (ok : PyData.strOk s = true) : ∃ z, RsAt H (.ref a) z ∧ Few z := ⟨.word s, ⟨a, rfl, h, ok⟩, fun s2 w e => by cases e⟩
end RH
namespace RH
open PySem PySem.Spec PyProof.Rows L2 RL RQ RV Rv
theorem NRows.cat {H : Hp} {as bs : List Addr} {ps qs : List (List Nat)} (t : NRows H as ps) (u : NRows H bs qs) : NRows H (as ++ bs) (ps ++ qs) := by
  have l := Rv.NRows.len t
  have l2 := Rv.NRows.len u
  refine Rv.NRows.mk (by rw [List.length_append, List.length_append, l, l2]) fun i b p e1 e2 => ?_
  by_cases hi : i < as.length
  · rw [List.getElem?_append_left hi] at e1
    rw [List.getElem?_append_left (by omega)] at e2
    obtain ⟨p', k1, k2⟩ := Rv.NRows.get t e1
    rw [e2] at k1
    cases k1
    exact k2
  · rw [List.getElem?_append_right (by omega)] at e1 e2
    rw [← l] at e2
    obtain ⟨p', k1, k2⟩ := Rv.NRows.get u e1
    rw [e2] at k1
    cases k1
    exact k2
end RH
namespace RH
open PySem PySem.Spec PyProof.Rows L2 RL RQ RV Rv
theorem rd_eqIm0 {K : PySem.W.Frag} {H : Hp} {Q : VK} {p p2 : Addr} {xs : List Addr} {gs : List (List Int)} (h : H p = some (.lst (xs.map V.ref))) (t : ImsG H xs gs) (h2 : H p2 = some (.lst [])) (q : Q (.bl (decide (gs = []))) H) : rEqD K (.ref p) (.ref p2) H Q := by
  refine ⟨_, _, .lst (SqL.of h) (dp_imsG t), .lst (SqL.of h2) .nil, (Sh.list (k := 1) fun d hd => ?_).shaped (by decide), by decide, ?_⟩
  · obtain ⟨g, _, rfl⟩ := List.mem_map.mp hd
    exact Sh.tuple fun d hd => by
      obtain ⟨x, _, rfl⟩ := List.mem_map.mp hd
      exact Sh.int x
  · cases gs with
    | nil => exact q
    | cons g r => exact q
/-- images that end elsewhere -/
def strays (L : List Ln) (fs : List Int) (gs : List (List Int)) : List (List Int) := gs.filter fun g => !decide (run L g = fs)
theorem strays_len (L : List Ln) (fs : List Int) (gs : List (List Int)) (i : Nat) : (strays L fs (gs.take i)).length ≤ gs.length := by
  unfold strays
  have h1 := List.length_filter_le (fun g => !decide (run L g = fs)) (gs.take i)
  have h3 : (gs.take i).length ≤ gs.length := by rw [List.length_take]; exact Nat.min_le_right ..
  omega
theorem strays_next {L : List Ln} {fs : List Int} {gs : List (List Int)} {i : Nat} {g : List Int} (h : gs[i]? = some g) : strays L fs (gs.take (i + 1)) = strays L fs (gs.take i) ++ if (!decide (run L g = fs)) = true then [g] else [] := by
  obtain ⟨h1, h2⟩ := List.getElem?_eq_some_iff.mp h
  unfold strays
  rw [take_next h1, List.filter_append, h2, List.filter_cons]
  rfl
theorem safe_of {L : List Ln} {es : List Int} {gs : List (List Int)} (all : ∀ i, i ≤ L.length → run (L.take i) es ∈ gs) (h : strays L (run L es) gs = []) : Safe L es := fun i hi => by
  unfold strays at h
  rw [List.filter_eq_nil_iff] at h
  have := h _ (all i hi)
  simpa using this
theorem LsAt.ins {H : Hp} {l : Addr} {L : List Ln} {as : List Addr} {k j : Nat} {c : Addr} {r : Ln} (h : H l = some (.lst (as.map V.ref))) (t : TupsAt H as (rows L)) (hc : as[j]? = some c) (hr : L[j]? = some r) : LsAt (upd H l (.lst ((as.map V.ref).take k ++ [.ref c] ++ (as.map V.ref).drop k))) l (L.take k ++ [r] ++ L.drop k) := by
  refine ⟨as.take k ++ [c] ++ as.drop k, by rw [upd_same, List.map_append, List.map_append, List.map_take, List.map_drop]; rfl, ?_⟩
  have la : as.length = L.length := by rw [t.1]; exact List.length_map ..
  have at_ : ∀ (i : Nat) (vs : List V), (rows L)[i]? = some vs → ∃ p, as[i]? = some p ∧ upd H l (.lst ((as.map V.ref).take k ++ [.ref c] ++ (as.map V.ref).drop k)) p = some (.tup vs) := (TupsAt.mut h t).2
  refine ⟨by unfold rows; simp [la], fun i vs e => ?_⟩
  unfold rows at e at_
  rw [List.getElem?_map] at e
  rcases Nat.lt_trichotomy i (min k L.length) with z | z | z
  · rw [List.append_assoc, List.getElem?_append_left (by rw [List.length_take]; exact z), List.getElem?_take_of_lt (by omega)] at e
    obtain ⟨p, e1, e2⟩ := at_ i vs (by rw [List.getElem?_map]; exact e)
    exact ⟨p, by rw [List.append_assoc, List.getElem?_append_left (by rw [List.length_take, la]; exact z), List.getElem?_take_of_lt (by omega)]; exact e1, e2⟩
  · rw [List.append_assoc, List.getElem?_append_right (by rw [List.length_take]; omega), List.length_take, z, Nat.sub_self] at e
    cases e
    obtain ⟨p, e1, e2⟩ := at_ j r.vals (by rw [List.getElem?_map, hr]; rfl)
    rw [hc] at e1
    cases e1
    exact ⟨c, by rw [List.append_assoc, List.getElem?_append_right (by rw [List.length_take, la]; omega), List.length_take, la, z, Nat.sub_self]; rfl, e2⟩
  · rw [List.append_assoc, List.getElem?_append_right (by rw [List.length_take]; omega), List.length_take, List.getElem?_append_right (by simp; omega), List.getElem?_drop] at e
    obtain ⟨p, e1, e2⟩ := at_ (k + (i - min k L.length - [r].length)) vs (by rw [List.getElem?_map]; exact e)
    exact ⟨p, by rw [List.append_assoc, List.getElem?_append_right (by rw [List.length_take, la]; omega), List.length_take, la, List.getElem?_append_right (by simp; omega), List.getElem?_drop]; exact e1, e2⟩
end RH

namespace RH
open PySem PySem.Spec PyProof.Rows L2 RL RQ RV Rv
def lnD (r : Ln) : PyData := .tuple [.str r.w, .int r.t, .int r.o, .str (txt r.g)]
theorem dp_lns {K : PySem.W.Frag} {H : Hp} : ∀ {as : List Addr} {L : List Ln}, TupsAt H as (rows L) → DpAll K H (as.map V.ref) (L.map lnD)
  | [], [], _ => .nil
  | [], r :: L, t => by have := t.1; simp [rows] at this
  | a :: as, [], t => by have := t.1; simp [rows] at this
  | a :: as, r :: L, t => by
    obtain ⟨p, e1, e2⟩ := t.2 0 r.vals rfl
    cases e1
    exact .cons (.tup (SqT.of e2) (.cons (.str _) (.cons (.int _) (.cons (.int _) (.cons (.str _) .nil))))) (dp_lns ⟨by have := t.1; simpa [rows] using this, fun i vs e => t.2 (i + 1) vs e⟩)
theorem rd_neLns0 {K : PySem.W.Frag} {H : Hp} {Q : VK} {p p2 : Addr} {L : List Ln} (h : LsAt H p L) (ok : ∀ r ∈ L, r.w = sMove ∧ ∀ c ∈ r.g, c < 128) (h2 : H p2 = some (.lst [])) (q : Q (.bl (!decide (L = []))) H) : rNeD K (.ref p) (.ref p2) H Q := by
  obtain ⟨as, h, t⟩ := h
  refine ⟨_, _, .lst (SqL.of h) (dp_lns t), .lst (SqL.of h2) .nil, (Sh.list (k := 1) fun d hd => ?_).shaped (by decide), by decide, ?_⟩
  · obtain ⟨r, hr, rfl⟩ := List.mem_map.mp hd
    obtain ⟨w, o⟩ := ok r hr
    refine Sh.tuple fun d hd => ?_
    simp only [List.mem_cons, List.not_mem_nil, or_false] at hd
    rcases hd with rfl | rfl | rfl | rfl
    · rw [w]; exact Sh.str (by decide +kernel)
    · exact Sh.int _
    · exact Sh.int _
    · exact Sh.str (strOk_txt o)
  · cases L with
    | nil => exact q
    | cons g r => exact q
end RH
namespace RH
open PySem PySem.Spec PyProof.Rows L2 RL RQ RV Rv
theorem IB.box {b : Addr} {H H' : Hp} {v : V} {k : Int} (h : IB [] H v k) (w : Wg (bkL b) H H') : IB [] H' v k := by
  rcases h with ⟨e, ⟨p, xs, e2, n, h⟩ | ⟨p, es, e2, h, l⟩⟩ | ⟨a, es, j, e, h, r⟩
  · by_cases pb : p = b
    · obtain ⟨A, f, M, c, hb⟩ := w.i1
      exact .inl ⟨e, .inl ⟨p, _, e2, n, by rw [pb]; exact hb⟩⟩
    · exact .inl ⟨e, .inl ⟨p, xs, e2, n, w.lst (fun k => pb (List.mem_singleton.mp k)) h⟩⟩
  · exact .inl ⟨e, .inr ⟨p, es, e2, h.wg w, l⟩⟩
  · exact .inr ⟨a, es, j, e, h.wg w, r⟩
theorem BadC.box {b : Addr} {H H' : Hp} {v1 v2 : V} {s : Str} {k : Int} (h : BadC H v1 v2 s k) (w : Wg (bkL b) H H') : BadC H' v1 v2 s k := by
  rcases h with ⟨es, h⟩ | ⟨es, ek, fs, gs, i1, i2, n⟩
  · rcases h with h | ⟨gs, i, h⟩
    · exact .inl ⟨es, .inl (IB.box h w)⟩
    · exact .inl ⟨es, .inr ⟨gs, i.wg w, IB.box h w⟩⟩
  · exact .inr ⟨es, ek, fs, gs, i1.wg w, i2.wg w, n⟩
end RH
namespace K40
open PySem PySem.Spec PyProof.Rows L2 Rv RL RQ RV RZ2 RH
def top (i : Nat) : Stmt := PySem.Challenge.pw_redolots_k40_whole_obstacles_hold.main.body.getD i (.Pass ⟨0, 0, 0, 0⟩)
abbrev scheck_image : Stmt := top 10
theorem sccheck_image : FnScope ["image", "block", "entry"] ["image"] (defScope scheck_image) := ⟨rfl, rfl, rfl, by decide +kernel, rfl, by decide +kernel, by decide +kernel⟩
abbrev slook : Stmt := top 11
theorem sclook : FnScope ["image", "entry"] ["image"] (defScope slook) := ⟨rfl, rfl, rfl, by decide +kernel, rfl, by decide +kernel, by decide +kernel⟩
abbrev s_sign : Stmt := top 12
theorem sc_sign : FnScope ["entry"] ["entry"] (defScope s_sign) := ⟨rfl, rfl, rfl, by decide +kernel, rfl, by decide +kernel, by decide +kernel⟩
abbrev sfollowed : Stmt := top 14
theorem scfollowed : FnScope ["leads", "block", "path"] ["leads", "block"] (defScope sfollowed) := ⟨rfl, rfl, rfl, by decide +kernel, rfl, by decide +kernel, by decide +kernel⟩
abbrev sall_rings : Stmt := top 15
theorem scall_rings : FnScope ["leads", "paths", "block", "path"] ["leads"] (defScope sall_rings) := ⟨rfl, rfl, rfl, by decide +kernel, rfl, by decide +kernel, by decide +kernel⟩
abbrev scheck_renaming : Stmt := top 17
theorem sccheck_renaming : FnScope ["before", "after", "values", "entry"] ["before", "after"] (defScope scheck_renaming) := ⟨rfl, rfl, rfl, by decide +kernel, rfl, by decide +kernel, by decide +kernel⟩
abbrev srings : Stmt := top 18
theorem scrings : FnScope ["before", "after"] ["before", "after"] (defScope srings) := ⟨rfl, rfl, rfl, by decide +kernel, rfl, by decide +kernel, by decide +kernel⟩
abbrev smoving : Stmt := top 19
theorem scmoving : FnScope ["before", "after", "entry", "now"] ["before", "after"] (defScope smoving) := ⟨rfl, rfl, rfl, by decide +kernel, rfl, by decide +kernel, by decide +kernel⟩
abbrev s_leads : Stmt := top 20
theorem sc_leads : FnScope ["before", "after", "entry"] ["before", "after"] (defScope s_leads) := ⟨rfl, rfl, rfl, by decide +kernel, rfl, by decide +kernel, by decide +kernel⟩
abbrev sobstacle : Stmt := top 22
theorem scobstacle : FnScope ["before", "after", "turned"] ["before", "after"] (defScope sobstacle) := ⟨rfl, rfl, rfl, by decide +kernel, rfl, by decide +kernel, by decide +kernel⟩
abbrev sjudge_obstacle : Stmt := top 23
theorem scjudge_obstacle : FnScope ["before", "after", "reason"] ["before", "after", "reason"] (defScope sjudge_obstacle) := ⟨rfl, rfl, rfl, by decide +kernel, rfl, by decide +kernel, by decide +kernel⟩
abbrev sfewest_moves : Stmt := top 24
theorem scfewest_moves : FnScope ["before", "after"] ["before", "after"] (defScope sfewest_moves) := ⟨rfl, rfl, rfl, by decide +kernel, rfl, by decide +kernel, by decide +kernel⟩
abbrev s_check_free : Stmt := top 25
theorem sc_check_free : FnScope ["before", "after", "reason"] ["before", "after"] (defScope s_check_free) := ⟨rfl, rfl, rfl, by decide +kernel, rfl, by decide +kernel, by decide +kernel⟩
abbrev s_is_crowded : Stmt := top 26
theorem sc_is_crowded : FnScope ["before", "after"] ["before", "after"] (defScope s_is_crowded) := ⟨rfl, rfl, rfl, by decide +kernel, rfl, by decide +kernel, by decide +kernel⟩
abbrev s_is_of_one_kind : Stmt := top 27
theorem sc_is_of_one_kind : FnScope ["image", "sign"] ["image"] (defScope s_is_of_one_kind) := ⟨rfl, rfl, rfl, by decide +kernel, rfl, by decide +kernel, by decide +kernel⟩
abbrev s_are_rings : Stmt := top 28
theorem sc_are_rings : FnScope ["before", "after", "told", "turned", "ring"] ["before", "after", "told"] (defScope s_are_rings) := ⟨rfl, rfl, rfl, by decide +kernel, rfl, by decide +kernel, by decide +kernel⟩
abbrev s_law_box : Stmt := top 30
theorem sc_law_box : FnScope ["script", "at", "cell"] ["script", "at"] (defScope s_law_box) := ⟨rfl, rfl, rfl, by decide +kernel, rfl, by decide +kernel, by decide +kernel⟩
abbrev s_law_take : Stmt := top 31
theorem sc_law_take : FnScope ["box", "limit", "digit", "mixed"] ["box", "limit"] (defScope s_law_take) := ⟨rfl, rfl, rfl, by decide +kernel, rfl, by decide +kernel, by decide +kernel⟩
abbrev s_law_values : Stmt := top 32
theorem sc_law_values : FnScope ["box", "many", "way", "kind", "found", "at", "value", "turn"] ["box", "many"] (defScope s_law_values) := ⟨rfl, rfl, rfl, by decide +kernel, rfl, by decide +kernel, by decide +kernel⟩
abbrev s_law_laid : Stmt := top 33
theorem sc_law_laid : FnScope ["box", "blocks", "values", "free", "laid", "value", "at", "k"] ["box", "blocks", "values"] (defScope s_law_laid) := ⟨rfl, rfl, rfl, by decide +kernel, rfl, by decide +kernel, by decide +kernel⟩
abbrev s_law_before : Stmt := top 34
theorem sc_law_before : FnScope ["box", "blocks", "empties", "way"] ["box"] (defScope s_law_before) := ⟨rfl, rfl, rfl, by decide +kernel, rfl, by decide +kernel, by decide +kernel⟩
abbrev s_law_sign : Stmt := top 35
theorem sc_law_sign : FnScope ["entry"] ["entry"] (defScope s_law_sign) := ⟨rfl, rfl, rfl, by decide +kernel, rfl, by decide +kernel, by decide +kernel⟩
abbrev s_law_view : Stmt := top 36
theorem sc_law_view : FnScope ["image", "entry"] ["image"] (defScope s_law_view) := ⟨rfl, rfl, rfl, by decide +kernel, rfl, by decide +kernel, by decide +kernel⟩
abbrev s_law_partners : Stmt := top 37
theorem sc_law_partners : FnScope ["laid", "one", "way", "others", "at"] ["laid", "one", "way"] (defScope s_law_partners) := ⟨rfl, rfl, rfl, by decide +kernel, rfl, by decide +kernel, by decide +kernel⟩
abbrev s_law_turned : Stmt := top 38
theorem sc_law_turned : FnScope ["box", "before", "laid", "free", "turn", "one", "two", "kept", "three", "at"] ["box", "before"] (defScope s_law_turned) := ⟨rfl, rfl, rfl, by decide +kernel, rfl, by decide +kernel, by decide +kernel⟩
abbrev s_law_after : Stmt := top 39
theorem sc_law_after : FnScope ["box", "before", "way", "laid", "many", "turn", "ones", "one", "fit", "two", "kept", "at", "value"] ["box", "before"] (defScope s_law_after) := ⟨rfl, rfl, rfl, by decide +kernel, rfl, by decide +kernel, by decide +kernel⟩
abbrev s_law_number : Stmt := top 40
theorem sc_law_number : FnScope ["told"] ["told"] (defScope s_law_number) := ⟨rfl, rfl, rfl, by decide +kernel, rfl, by decide +kernel, by decide +kernel⟩
abbrev s_law_fresh : Stmt := top 41
theorem sc_law_fresh : FnScope ["box", "image", "value", "turn"] ["box", "image"] (defScope s_law_fresh) := ⟨rfl, rfl, rfl, by decide +kernel, rfl, by decide +kernel, by decide +kernel⟩
abbrev s_law_with : Stmt := top 42
theorem sc_law_with : FnScope ["image", "at", "entry"] ["image", "at", "entry"] (defScope s_law_with) := ⟨rfl, rfl, rfl, by decide +kernel, rfl, by decide +kernel, by decide +kernel⟩
abbrev s_law_wrong : Stmt := top 43
theorem sc_law_wrong : FnScope ["box", "way"] ["box"] (defScope s_law_wrong) := ⟨rfl, rfl, rfl, by decide +kernel, rfl, by decide +kernel, by decide +kernel⟩
abbrev s_law_doubled : Stmt := top 44
theorem sc_law_doubled : FnScope ["image", "gone", "kept", "entry"] ["image", "gone", "kept"] (defScope s_law_doubled) := ⟨rfl, rfl, rfl, by decide +kernel, rfl, by decide +kernel, by decide +kernel⟩
abbrev s_law_bad_image : Stmt := top 45
theorem sc_law_bad_image : FnScope ["box", "before", "after", "way", "at", "other", "wrong", "odd"] ["box", "before", "after", "way"] (defScope s_law_bad_image) := ⟨rfl, rfl, rfl, by decide +kernel, rfl, by decide +kernel, by decide +kernel⟩
abbrev s_law_bad_values : Stmt := top 46
theorem sc_law_bad_values : FnScope ["box", "before", "after", "way", "blocks", "full", "empty", "due", "gone", "kept", "entry", "k"] ["box", "before", "after", "way"] (defScope s_law_bad_values) := ⟨rfl, rfl, rfl, by decide +kernel, rfl, by decide +kernel, by decide +kernel⟩
abbrev s_law_bad : Stmt := top 47
theorem sc_law_bad : FnScope ["box", "before", "after", "way"] ["box", "before", "after"] (defScope s_law_bad) := ⟨rfl, rfl, rfl, by decide +kernel, rfl, by decide +kernel, by decide +kernel⟩
abbrev s_law_moved : Stmt := top 48
theorem sc_law_moved : FnScope ["before", "after", "value"] ["before", "after"] (defScope s_law_moved) := ⟨rfl, rfl, rfl, by decide +kernel, rfl, by decide +kernel, by decide +kernel⟩
abbrev s_law_loop : Stmt := top 49
theorem sc_law_loop : FnScope ["before", "after", "first", "row", "turn", "at"] ["before", "after", "first"] (defScope s_law_loop) := ⟨rfl, rfl, rfl, by decide +kernel, rfl, by decide +kernel, by decide +kernel⟩
abbrev s_law_loops : Stmt := top 50
theorem sc_law_loops : FnScope ["before", "after", "found", "first", "row"] ["before", "after"] (defScope s_law_loops) := ⟨rfl, rfl, rfl, by decide +kernel, rfl, by decide +kernel, by decide +kernel⟩
abbrev s_law_one_kind : Stmt := top 51
theorem sc_law_one_kind : FnScope ["image", "signs", "entry", "sign"] ["image"] (defScope s_law_one_kind) := ⟨rfl, rfl, rfl, by decide +kernel, rfl, by decide +kernel, by decide +kernel⟩
abbrev s_law_reason : Stmt := top 52
theorem sc_law_reason : FnScope ["before", "after", "loops"] ["before", "after"] (defScope s_law_reason) := ⟨rfl, rfl, rfl, by decide +kernel, rfl, by decide +kernel, by decide +kernel⟩
abbrev s_law_same_loops : Stmt := top 53
theorem sc_law_same_loops : FnScope ["told", "due", "row", "block"] ["told", "due"] (defScope s_law_same_loops) := ⟨rfl, rfl, rfl, by decide +kernel, rfl, by decide +kernel, by decide +kernel⟩
abbrev s_law_same_reason : Stmt := top 54
theorem sc_law_same_reason : FnScope ["told", "due"] ["told", "due"] (defScope s_law_same_reason) := ⟨rfl, rfl, rfl, by decide +kernel, rfl, by decide +kernel, by decide +kernel⟩
abbrev s_law_fires : Stmt := top 55
theorem sc_law_fires : FnScope ["line", "now", "at", "mark"] ["line", "now"] (defScope s_law_fires) := ⟨rfl, rfl, rfl, by decide +kernel, rfl, by decide +kernel, by decide +kernel⟩
abbrev s_law_after_line : Stmt := top 56
theorem sc_law_after_line : FnScope ["line", "now", "laid"] ["line", "now"] (defScope s_law_after_line) := ⟨rfl, rfl, rfl, by decide +kernel, rfl, by decide +kernel, by decide +kernel⟩
abbrev s_law_end : Stmt := top 57
theorem sc_law_end : FnScope ["lines", "now", "line"] ["lines", "now"] (defScope s_law_end) := ⟨rfl, rfl, rfl, by decide +kernel, rfl, by decide +kernel, by decide +kernel⟩
abbrev s_law_beginnings : Stmt := top 58
theorem sc_law_beginnings : FnScope ["lines", "image", "most", "met", "found", "at", "now", "line"] ["lines", "image", "most"] (defScope s_law_beginnings) := ⟨rfl, rfl, rfl, by decide +kernel, rfl, by decide +kernel, by decide +kernel⟩
abbrev s_law_mark : Stmt := top 59
theorem sc_law_mark : FnScope ["box", "entry", "way", "pick"] ["box", "entry", "way"] (defScope s_law_mark) := ⟨rfl, rfl, rfl, by decide +kernel, rfl, by decide +kernel, by decide +kernel⟩
abbrev s_law_guard : Stmt := top 60
theorem sc_law_guard : FnScope ["box", "now", "target", "way", "marks", "at"] ["box", "now", "target", "way"] (defScope s_law_guard) := ⟨rfl, rfl, rfl, by decide +kernel, rfl, by decide +kernel, by decide +kernel⟩
abbrev s_law_careful : Stmt := top 61
theorem sc_law_careful : FnScope ["box", "image", "many", "way", "lines", "now", "turn", "empty", "full", "target", "source", "at"] ["box", "image", "many", "way"] (defScope s_law_careful) := ⟨rfl, rfl, rfl, by decide +kernel, rfl, by decide +kernel, by decide +kernel⟩
abbrev s_law_any_moves : Stmt := top 62
theorem sc_law_any_moves : FnScope ["box", "image", "many", "lines", "now", "blocks", "turn", "target", "empty", "source", "way", "guard", "at"] ["box", "image", "many"] (defScope s_law_any_moves) := ⟨rfl, rfl, rfl, by decide +kernel, rfl, by decide +kernel, by decide +kernel⟩
abbrev s_law_fired : Stmt := top 63
theorem sc_law_fired : FnScope ["lines", "now", "count", "line"] ["lines", "now"] (defScope s_law_fired) := ⟨rfl, rfl, rfl, by decide +kernel, rfl, by decide +kernel, by decide +kernel⟩
abbrev s_law_obstacle : Stmt := top 64
theorem sc_law_obstacle : FnScope ["before", "after", "caught"] ["before", "after"] (defScope s_law_obstacle) := ⟨rfl, rfl, rfl, by decide +kernel, rfl, by decide +kernel, by decide +kernel⟩
abbrev s_law_judged : Stmt := top 65
theorem sc_law_judged : FnScope ["before", "after", "reason", "loops", "row"] ["before", "after", "reason"] (defScope s_law_judged) := ⟨rfl, rfl, rfl, by decide +kernel, rfl, by decide +kernel, by decide +kernel⟩
abbrev s_law_any_reason : Stmt := top 66
theorem sc_law_any_reason : FnScope ["box", "before", "after", "way", "loops", "one", "two", "some", "row"] ["box", "before", "after"] (defScope s_law_any_reason) := ⟨rfl, rfl, rfl, by decide +kernel, rfl, by decide +kernel, by decide +kernel⟩
abbrev s_law_bound_holds : Stmt := top 67
theorem sc_law_bound_holds : FnScope ["before", "after", "fired", "number"] ["before", "after", "fired"] (defScope s_law_bound_holds) := ⟨rfl, rfl, rfl, by decide +kernel, rfl, by decide +kernel, by decide +kernel⟩
abbrev s_law_due : Stmt := top 68
theorem sc_law_due : FnScope ["safe", "before", "after", "loops"] ["safe", "before", "after"] (defScope s_law_due) := ⟨rfl, rfl, rfl, by decide +kernel, rfl, by decide +kernel, by decide +kernel⟩
abbrev s_law_judge_holds : Stmt := top 69
theorem sc_law_judge_holds : FnScope ["box", "before", "after", "safe", "turn", "reason", "judged"] ["box", "before", "after", "safe"] (defScope s_law_judge_holds) := ⟨rfl, rfl, rfl, by decide +kernel, rfl, by decide +kernel, by decide +kernel⟩
abbrev s_law_ends_hold : Stmt := top 70
theorem sc_law_ends_hold : FnScope ["box", "image", "lines", "final", "found", "safe", "due", "told", "now"] ["box", "image", "lines"] (defScope s_law_ends_hold) := ⟨rfl, rfl, rfl, by decide +kernel, rfl, by decide +kernel, by decide +kernel⟩
abbrev s_law_careful_holds : Stmt := top 71
theorem sc_law_careful_holds : FnScope ["box", "image", "many", "lines", "at"] ["box", "image"] (defScope s_law_careful_holds) := ⟨rfl, rfl, rfl, by decide +kernel, rfl, by decide +kernel, by decide +kernel⟩
abbrev s_law_any_holds : Stmt := top 72
theorem sc_law_any_holds : FnScope ["box", "image", "lines", "final"] ["box", "image"] (defScope s_law_any_holds) := ⟨rfl, rfl, rfl, by decide +kernel, rfl, by decide +kernel, by decide +kernel⟩
abbrev s_law_bad_asked : Stmt := top 73
theorem sc_law_bad_asked : FnScope ["before", "after", "reason", "caught"] ["before", "after", "reason"] (defScope s_law_bad_asked) := ⟨rfl, rfl, rfl, by decide +kernel, rfl, by decide +kernel, by decide +kernel⟩
abbrev slaw : Stmt := top 74
theorem sclaw : FnScope ["script", "at", "image", "box", "after", "bad", "reason"] ["script"] (defScope slaw) := ⟨rfl, rfl, rfl, by decide +kernel, rfl, by decide +kernel, by decide +kernel⟩
abbrev sInvalidImageu_initu : Stmt := inClass (top 3) 0
theorem scInvalidImageu_initu : FnScope ["self", "block"] ["self", "block"] (defScope sInvalidImageu_initu) := ⟨rfl, rfl, rfl, by decide +kernel, rfl, by decide +kernel, by decide +kernel⟩
abbrev sNoPlanu_initu : Stmt := inClass (top 4) 0
theorem scNoPlanu_initu : FnScope ["self", "reason"] ["self", "reason"] (defScope sNoPlanu_initu) := ⟨rfl, rfl, rfl, by decide +kernel, rfl, by decide +kernel, by decide +kernel⟩
abbrev sUndecidedu_initu : Stmt := inClass (top 5) 0
theorem scUndecidedu_initu : FnScope ["self", "rings"] ["self", "rings"] (defScope sUndecidedu_initu) := ⟨rfl, rfl, rfl, by decide +kernel, rfl, by decide +kernel, by decide +kernel⟩
theorem okInit_InvalidImage {P : Program} {w : World} {K : PySem.W.Frag} {mg : Str → Option Value} {base : Heap} {C fI : Addr} {fd : FuncData} (ET : ErrT K mg C fI "InvalidImage" "block") (F : Fun K "__init__" "InvalidImage.__init__" sInvalidImageu_initu fI fd) : FnOk P w K mg base CX0 1 fI fd ["self", "block"] (spErr C "block") := by
  refine F.ok scInvalidImageu_initu (fun vs H Q E h => ?_) (fun cdv A outer s H vs Q E hr h => ?_)
  · obtain ⟨a, v, rfl, _⟩ := h
    rfl
  · obtain ⟨a, v, rfl, ea, q⟩ := h
    exact ⟨_, pss_one (ps_ost (pv 0) (pv 1)), _, rfl, _, rfl, a, C, rfl, ET.ox, ET.noN, .inl ⟨ea, fun d nd ne => q d nd ne⟩⟩
theorem okInit_NoPlan {P : Program} {w : World} {K : PySem.W.Frag} {mg : Str → Option Value} {base : Heap} {C fI : Addr} {fd : FuncData} (ET : ErrT K mg C fI "NoPlan" "reason") (F : Fun K "__init__" "NoPlan.__init__" sNoPlanu_initu fI fd) : FnOk P w K mg base CX0 1 fI fd ["self", "reason"] (spErr C "reason") := by
  refine F.ok scNoPlanu_initu (fun vs H Q E h => ?_) (fun cdv A outer s H vs Q E hr h => ?_)
  · obtain ⟨a, v, rfl, _⟩ := h
    rfl
  · obtain ⟨a, v, rfl, ea, q⟩ := h
    exact ⟨_, pss_one (ps_ost (pv 0) (pv 1)), _, rfl, _, rfl, a, C, rfl, ET.ox, ET.noN, .inl ⟨ea, fun d nd ne => q d nd ne⟩⟩
theorem okInit_Undecided {P : Program} {w : World} {K : PySem.W.Frag} {mg : Str → Option Value} {base : Heap} {C fI : Addr} {fd : FuncData} (ET : ErrT K mg C fI "Undecided" "rings") (F : Fun K "__init__" "Undecided.__init__" sUndecidedu_initu fI fd) : FnOk P w K mg base CX0 1 fI fd ["self", "rings"] (spErr C "rings") := by
  refine F.ok scUndecidedu_initu (fun vs H Q E h => ?_) (fun cdv A outer s H vs Q E hr h => ?_)
  · obtain ⟨a, v, rfl, _⟩ := h
    rfl
  · obtain ⟨a, v, rfl, ea, q⟩ := h
    exact ⟨_, pss_one (ps_ost (pv 0) (pv 1)), _, rfl, _, rfl, a, C, rfl, ET.ox, ET.noN, .inl ⟨ea, fun d nd ne => q d nd ne⟩⟩
structure Top (K : PySem.W.Frag) (mg : Str → Option Value) : Prop where
  d_check_image : ∃ f fd, Def K mg "check_image" scheck_image ["image"] f fd
  d_look : ∃ f fd, Def K mg "look" slook ["image"] f fd
  d__sign : ∃ f fd, Def K mg "_sign" s_sign ["entry"] f fd
  d_followed : ∃ f fd, Def K mg "followed" sfollowed ["leads", "block"] f fd
  d_all_rings : ∃ f fd, Def K mg "all_rings" sall_rings ["leads"] f fd
  d_check_renaming : ∃ f fd, Def K mg "check_renaming" scheck_renaming ["before", "after"] f fd
  d_rings : ∃ f fd, Def K mg "rings" srings ["before", "after"] f fd
  d_moving : ∃ f fd, Def K mg "moving" smoving ["before", "after"] f fd
  d__leads : ∃ f fd, Def K mg "_leads" s_leads ["before", "after"] f fd
  d_obstacle : ∃ f fd, Def K mg "obstacle" sobstacle ["before", "after"] f fd
  d_judge_obstacle : ∃ f fd, Def K mg "judge_obstacle" sjudge_obstacle ["before", "after", "reason"] f fd
  d_fewest_moves : ∃ f fd, Def K mg "fewest_moves" sfewest_moves ["before", "after"] f fd
  d__check_free : ∃ f fd, Def K mg "_check_free" s_check_free ["before", "after"] f fd
  d__is_crowded : ∃ f fd, Def K mg "_is_crowded" s_is_crowded ["before", "after"] f fd
  d__is_of_one_kind : ∃ f fd, Def K mg "_is_of_one_kind" s_is_of_one_kind ["image"] f fd
  d__are_rings : ∃ f fd, Def K mg "_are_rings" s_are_rings ["before", "after", "told"] f fd
  d__law_box : ∃ f fd, Def K mg "_law_box" s_law_box ["script", "at"] f fd
  d__law_take : ∃ f fd, Def K mg "_law_take" s_law_take ["box", "limit"] f fd
  d__law_values : ∃ f fd, Def K mg "_law_values" s_law_values ["box", "many"] f fd
  d__law_laid : ∃ f fd, Def K mg "_law_laid" s_law_laid ["box", "blocks", "values"] f fd
  d__law_before : ∃ f fd, Def K mg "_law_before" s_law_before ["box"] f fd
  d__law_sign : ∃ f fd, Def K mg "_law_sign" s_law_sign ["entry"] f fd
  d__law_view : ∃ f fd, Def K mg "_law_view" s_law_view ["image"] f fd
  d__law_partners : ∃ f fd, Def K mg "_law_partners" s_law_partners ["laid", "one", "way"] f fd
  d__law_turned : ∃ f fd, Def K mg "_law_turned" s_law_turned ["box", "before"] f fd
  d__law_after : ∃ f fd, Def K mg "_law_after" s_law_after ["box", "before"] f fd
  d__law_number : ∃ f fd, Def K mg "_law_number" s_law_number ["told"] f fd
  d__law_fresh : ∃ f fd, Def K mg "_law_fresh" s_law_fresh ["box", "image"] f fd
  d__law_with : ∃ f fd, Def K mg "_law_with" s_law_with ["image", "at", "entry"] f fd
  d__law_wrong : ∃ f fd, Def K mg "_law_wrong" s_law_wrong ["box"] f fd
  d__law_doubled : ∃ f fd, Def K mg "_law_doubled" s_law_doubled ["image", "gone", "kept"] f fd
  d__law_bad_image : ∃ f fd, Def K mg "_law_bad_image" s_law_bad_image ["box", "before", "after", "way"] f fd
  d__law_bad_values : ∃ f fd, Def K mg "_law_bad_values" s_law_bad_values ["box", "before", "after", "way"] f fd
  d__law_bad : ∃ f fd, Def K mg "_law_bad" s_law_bad ["box", "before", "after"] f fd
  d__law_moved : ∃ f fd, Def K mg "_law_moved" s_law_moved ["before", "after"] f fd
  d__law_loop : ∃ f fd, Def K mg "_law_loop" s_law_loop ["before", "after", "first"] f fd
  d__law_loops : ∃ f fd, Def K mg "_law_loops" s_law_loops ["before", "after"] f fd
  d__law_one_kind : ∃ f fd, Def K mg "_law_one_kind" s_law_one_kind ["image"] f fd
  d__law_reason : ∃ f fd, Def K mg "_law_reason" s_law_reason ["before", "after"] f fd
  d__law_same_loops : ∃ f fd, Def K mg "_law_same_loops" s_law_same_loops ["told", "due"] f fd
  d__law_same_reason : ∃ f fd, Def K mg "_law_same_reason" s_law_same_reason ["told", "due"] f fd
  d__law_fires : ∃ f fd, Def K mg "_law_fires" s_law_fires ["line", "now"] f fd
  d__law_after_line : ∃ f fd, Def K mg "_law_after_line" s_law_after_line ["line", "now"] f fd
  d__law_end : ∃ f fd, Def K mg "_law_end" s_law_end ["lines", "now"] f fd
  d__law_beginnings : ∃ f fd, Def K mg "_law_beginnings" s_law_beginnings ["lines", "image", "most"] f fd
  d__law_mark : ∃ f fd, Def K mg "_law_mark" s_law_mark ["box", "entry", "way"] f fd
  d__law_guard : ∃ f fd, Def K mg "_law_guard" s_law_guard ["box", "now", "target", "way"] f fd
  d__law_careful : ∃ f fd, Def K mg "_law_careful" s_law_careful ["box", "image", "many", "way"] f fd
  d__law_any_moves : ∃ f fd, Def K mg "_law_any_moves" s_law_any_moves ["box", "image", "many"] f fd
  d__law_fired : ∃ f fd, Def K mg "_law_fired" s_law_fired ["lines", "now"] f fd
  d__law_obstacle : ∃ f fd, Def K mg "_law_obstacle" s_law_obstacle ["before", "after"] f fd
  d__law_judged : ∃ f fd, Def K mg "_law_judged" s_law_judged ["before", "after", "reason"] f fd
  d__law_any_reason : ∃ f fd, Def K mg "_law_any_reason" s_law_any_reason ["box", "before", "after"] f fd
  d__law_bound_holds : ∃ f fd, Def K mg "_law_bound_holds" s_law_bound_holds ["before", "after", "fired"] f fd
  d__law_due : ∃ f fd, Def K mg "_law_due" s_law_due ["safe", "before", "after"] f fd
  d__law_judge_holds : ∃ f fd, Def K mg "_law_judge_holds" s_law_judge_holds ["box", "before", "after", "safe"] f fd
  d__law_ends_hold : ∃ f fd, Def K mg "_law_ends_hold" s_law_ends_hold ["box", "image", "lines"] f fd
  d__law_careful_holds : ∃ f fd, Def K mg "_law_careful_holds" s_law_careful_holds ["box", "image"] f fd
  d__law_any_holds : ∃ f fd, Def K mg "_law_any_holds" s_law_any_holds ["box", "image"] f fd
  d__law_bad_asked : ∃ f fd, Def K mg "_law_bad_asked" s_law_bad_asked ["before", "after", "reason"] f fd
  d_law : ∃ f fd, Def K mg "law" slaw ["script"] f fd
  b_abs : mg "abs" = none
  b_all : mg "all" = none
  b_bool : mg "bool" = none
  b_enumerate : mg "enumerate" = none
  b_int : mg "int" = none
  b_isinstance : mg "isinstance" = none
  b_len : mg "len" = none
  b_list : mg "list" = none
  b_max : mg "max" = none
  b_min : mg "min" = none
  b_range : mg "range" = none
  b_set : mg "set" = none
  b_sorted : mg "sorted" = none
  b_str : mg "str" = none
  b_sum : mg "sum" = none
  b_tuple : mg "tuple" = none
  b_zip : mg "zip" = none
  k_EMPTY : ∃ u, mg "EMPTY" = some u ∧ RelV (.int (-1)) u
  k__GREATEST : ∃ u, mg "_GREATEST" = some u ∧ RelV (.int (999)) u
  k__MOST_BLOCKS : ∃ u, mg "_MOST_BLOCKS" = some u ∧ RelV (.int (12)) u
  e_InvalidImage : ∃ (fI : Addr) (fd : FuncData), ErrT K mg (atTop K "InvalidImage") fI "InvalidImage" "block" ∧ Fun K "__init__" "InvalidImage.__init__" sInvalidImageu_initu fI fd ∧ Binds K fd ["self", "block"] []
  e_NoPlan : ∃ (fI : Addr) (fd : FuncData), ErrT K mg (atTop K "NoPlan") fI "NoPlan" "reason" ∧ Fun K "__init__" "NoPlan.__init__" sNoPlanu_initu fI fd ∧ Binds K fd ["self", "reason"] []
  e_Undecided : ∃ (fI : Addr) (fd : FuncData), ErrT K mg (atTop K "Undecided") fI "Undecided" "rings" ∧ Fun K "__init__" "Undecided.__init__" sUndecidedu_initu fI fd ∧ Binds K fd ["self", "rings"] []
  c_InvalidImage : ∃ u, mg "InvalidImage" = some u ∧ RelV (.ref (atTop K "InvalidImage")) u
  c_NoPlan : ∃ u, mg "NoPlan" = some u ∧ RelV (.ref (atTop K "NoPlan")) u
  c_NotRenaming : ∃ u, mg "NotRenaming" = some u ∧ RelV (.ref (atTop K "NotRenaming")) u
  c_RedoError : ∃ u, mg "RedoError" = some u ∧ RelV (.ref (atTop K "RedoError")) u
  c_Undecided : ∃ u, mg "Undecided" = some u ∧ RelV (.ref (atTop K "Undecided")) u
  e_NotRenaming : Err0 K mg (atTop K "NotRenaming") "NotRenaming"
  x_InvalidImage_InvalidImage : PySem.W.exmOne K (.ref (atTop K "InvalidImage")) (.ref (atTop K "InvalidImage")) = some true
  x_NotRenaming_InvalidImage : PySem.W.exmOne K (.ref (atTop K "NotRenaming")) (.ref (atTop K "InvalidImage")) = some false
  x_NotRenaming_NotRenaming : PySem.W.exmOne K (.ref (atTop K "NotRenaming")) (.ref (atTop K "NotRenaming")) = some true
  x_Undecided_Undecided : PySem.W.exmOne K (.ref (atTop K "Undecided")) (.ref (atTop K "Undecided")) = some true
  k_Undecided_RedoError : PySem.W.kitOne K (.ref (atTop K "Undecided")) (.ref (atTop K "RedoError")) = some true
  k_Undecided_NoPlan : PySem.W.kitOne K (.ref (atTop K "Undecided")) (.ref (atTop K "NoPlan")) = some false
  k_NotRenaming_InvalidImage : PySem.W.kitOne K (.ref (atTop K "NotRenaming")) (.ref (atTop K "InvalidImage")) = some false
  k_NotRenaming_NoPlan : PySem.W.kitOne K (.ref (atTop K "NotRenaming")) (.ref (atTop K "NoPlan")) = some false
local macro_rules | `(tactic| walk_at "hp") => `(tactic| first
  | assumption
  | exact upd_same
  | ((refine (upd_ne (by assumption)).trans ?_); walk_at "hp")
  | ((refine (upd_ne (Ne.symm (by assumption))).trans ?_); walk_at "hp")
  | ((refine Rv.back (by assumption) ?_); walk_at "hp")
  | ((refine Rv.Wg.tup (by assumption) ?_); walk_at "hp")
  | ((refine Rv.Wg.lst (by assumption) (by assumption) ?_); walk_at "hp")
  | ((refine Rv.Wd.tup (by assumption) ?_); walk_at "hp")
  | ((refine Rv.Wd.lst (by assumption) (by assumption) ?_); walk_at "hp"))
local macro_rules | `(tactic| walk_at "r1") => `(tactic| (first
  | ((with_reducible refine' rd_var ?hv ?_); (case hv => exact rfl))
  | with_reducible refine rd_c ?_
  | with_reducible refine rd_seq ?_
  | with_reducible refine rd_next ?_
  | with_reducible refine rd_asg ?_
  | with_reducible refine rd_name ?_
  | with_reducible refine rd_op ?_
  | with_reducible refine rd_un ?_
  | with_reducible refine rd_U ?_
  | with_reducible refine rd_I0 ?_
  | ((with_reducible refine' rd_I ?hc ?_); (case hc => first | exact .inr ⟨by decide, by decide⟩ | exact .inl ⟨by decide, by decide⟩ | exact ⟨by decide, by decide, by decide⟩ | exact ⟨by decide, by decide⟩ | (show (_ : Int) ≠ _; decide) | assumption))
  | ((with_reducible refine' rd_eq ?hc ?_); (case hc => exact rfl))
  | ((with_reducible refine' rd_ne ?hc ?_); (case hc => exact rfl))
  | with_reducible refine rd_test ?_
  | with_reducible refine rd_B ?_
  | with_reducible refine rd_k ?_
  | with_reducible refine rd_not ?_
  | with_reducible refine rd_notV ?_
  | with_reducible refine rd_and ?_
  | with_reducible refine rd_or ?_
  | with_reducible refine rd_andV ?_
  | with_reducible refine rd_orV ?_
  | with_reducible refine rd_if ?_
  | with_reducible refine rd_chain ?_
  | with_reducible refine rd_sub ?_
  | with_reducible refine rd_gcons ?_
  | with_reducible refine rd_gnil ?_
  | with_reducible refine rd_ret ?_
  | with_reducible refine rd_drop ?_
  | with_reducible refine rd_ifS ?_
  | with_reducible refine rd_cons ?_
  | with_reducible refine rd_nil ?_
  | with_reducible refine rd_CB ?_
  | with_reducible refine rd_call ?_
  | with_reducible refine rd_yes ?_
  | with_reducible refine rd_M1 ?_
  | with_reducible refine rd_intQ ?_
  | with_reducible refine rd_absQ ?_
  | with_reducible refine rd_minQ ?_
  | with_reducible refine rd_for ?_
  | with_reducible refine rd_lc ?_
  | with_reducible refine rd_iTup ?_
  | with_reducible refine rd_iList ?_
  | with_reducible refine rd_iRg1 ?_
  | ((with_reducible refine' rd_ItT ?hz ?_); (case hz => walk_at "hp"))
  | ((with_reducible refine' rd_ItL ?hz ?_); (case hz => walk_at "hp"))
  | ((with_reducible refine' rd_ixS ?hz ?he ?_); (case hz => assumption); (case he => assumption))
  | ((with_reducible refine' rd_lenZ ?hz ?_); (case hz => assumption))
  | ((with_reducible refine' rd_Rg1 ?hz ?_); (case hz => assumption))
  | with_reducible refine rd_sl ?_
  | with_reducible refine rd_noP ?_
  | with_reducible refine rd_part ?_
  | with_reducible refine rd_i ?_
  | ((with_reducible refine' iteNS ?hz ?_); (case hz => assumption))
  | with_reducible refine iteT ?_
  | with_reducible refine iteF ?_
  | with_reducible refine iteNT ?_
  | with_reducible refine iteNF ?_
  | ((with_reducible refine' rd_isiI ?hk ?_); (case hk => first | exact kit_ii | exact kit_ib))
  | ((with_reducible refine' rd_isiS ?hk ?_); (case hk => exact kit_ss))
  | ((with_reducible refine' rd_isiB ?hk ?_); (case hk => first | exact kit_bb | exact kit_bi))
  | ((with_reducible refine' rd_isiT ?hz ?hk ?_); (case hz => walk_at "hp"); (case hk => exact kit_tt))
  | ((with_reducible refine' rd_isiL ?hz ?hk ?_); (case hz => walk_at "hp"); (case hk => exact kit_ll))
  | ((with_reducible refine' rd_lenT ?hz ?_); (case hz => walk_at "hp"))
  | ((with_reducible refine' rd_lenL ?hz ?_); (case hz => walk_at "hp"))
  | ((with_reducible refine' rd_ixT ?hz ?he ?_); (case hz => walk_at "hp"); (case he => first | exact rfl | assumption))
  | ((with_reducible refine' rd_ixM ?hz ?he ?_); (case hz => walk_at "hp"); (case he => first | exact rfl | assumption))
  | ((with_reducible refine' rd_setL ?hz ?he ?_); (case hz => walk_at "hp"); (case he => first | exact rfl | assumption))
  | ((with_reducible refine' rd_gtup ?hz ?he ?_); (case hz => walk_at "hp"); (case he => first | exact rfl | assumption))
  ))
local macro_rules | `(tactic| walk_at "rd") => `(tactic| repeat (walk_at "r1"))
local macro_rules | `(tactic| walk_at "re") => `(tactic| repeat (first
  | walk_at "r1"
  | ((with_reducible refine' rd_BMv ?hv ?hz ?_); (case hv => exact rfl); (case hz => walk_at "hp"))
  | ((with_reducible refine' rd_app ?hz ?hl ?_); (case hz => walk_at "hp"); (case hl => assumption))
  | with_reducible refine rd_iStr ?_
  | with_reducible refine rd_ItS ?_
  ))
local macro_rules | `(tactic| walk_at "rn") => `(tactic| repeat (first
  | walk_at "r1"
  | ((with_reducible refine' rd_BMv ?hv ?hz ?_); (case hv => exact rfl); (case hz => walk_at "hp"))
  | ((with_reducible refine' rd_app ?hz ?hl ?_); (case hz => walk_at "hp"); (case hl => assumption))
  | with_reducible refine rd_iStr ?_
  | with_reducible refine rd_ItS ?_
  | with_reducible refine rd_isN ?_
  | with_reducible refine rd_raise ?_
  | with_reducible refine rd_mkO ?_
  | with_reducible refine rd_callS ?_
  | with_reducible refine rd_xfQ ?_
  | with_reducible refine rd_tryM ?_
  | ((with_reducible refine' rd_isiN ?hk ?_); (case hk => exact kit_nt))
  ))
local macro_rules | `(tactic| walk_at "rx") => `(tactic| repeat (first
  | ((with_reducible refine' rd_var ?hv ?_); (case hv => exact rfl))
  | with_reducible refine rd_cons ?_
  | with_reducible refine rd_op ?_
  | with_reducible refine rd_nil ?_
  | with_reducible refine rd_c ?_
  | with_reducible refine rd_seq ?_
  | with_reducible refine rd_name ?_
  | with_reducible refine rd_call ?_
  | with_reducible refine rd_asg ?_
  | with_reducible refine rd_CB ?_
  | with_reducible refine rd_ifS ?_
  | with_reducible refine rd_test ?_
  | with_reducible refine rd_k ?_
  | with_reducible refine rd_ret ?_
  | with_reducible refine rd_I0 ?_
  | with_reducible refine rd_next ?_
  | with_reducible refine iteT ?_
  | with_reducible refine iteF ?_
  | ((with_reducible refine' rd_ixG ?hz ?he ?_); (case hz => assumption); (case he => assumption))
  | ((with_reducible refine' rd_lenG ?hz ?_); (case hz => assumption))
  | ((with_reducible refine' rd_isG ?hz ?_); (case hz => assumption))
  | ((with_reducible refine' rd_ixO ?hz ?he ?_); (case hz => assumption); (case he => first | exact rfl | assumption))
  | with_reducible refine rd_sk ?_
  | with_reducible refine rd_iStr ?_
  | with_reducible refine rd_ItS ?_
  | ((with_reducible refine' rd_lenO ?hz ?_); (case hz => assumption))
  | ((with_reducible refine' rd_isO ?hz ?_); (case hz => assumption))
  | with_reducible refine rd_iEnO ?_
  | with_reducible refine rd_intOI ?_
  | ((with_reducible refine' rd_lstO ?hz ?_); (case hz => assumption))
  | ((with_reducible refine' rd_ItO ?hz ?_); (case hz => assumption))
  | with_reducible refine rd_iZpA ?_
  | with_reducible refine rd_tupN ?_
  | with_reducible refine rd_lstN ?_
  | ((with_reducible refine' rd_lstLN ?hz ?_); (case hz => walk_at "hp"))
  | ((with_reducible refine' rd_lstTN ?hz ?_); (case hz => walk_at "hp"))
  | ((with_reducible refine' rd_tupLN ?hz ?_); (case hz => walk_at "hp"))
  | walk_at "r1"
  | ((with_reducible refine' rd_BMv ?hv ?hz ?_); (case hv => exact rfl); (case hz => walk_at "hp"))
  | ((with_reducible refine' rd_app ?hz ?hl ?_); (case hz => walk_at "hp"); (case hl => assumption))
  | with_reducible refine rd_iStr ?_
  | with_reducible refine rd_ItS ?_
  | with_reducible refine rd_isN ?_
  | with_reducible refine rd_raise ?_
  | with_reducible refine rd_mkO ?_
  | with_reducible refine rd_callS ?_
  | with_reducible refine rd_xfQ ?_
  | with_reducible refine rd_tryM ?_
  | ((with_reducible refine' rd_isiN ?hk ?_); (case hk => exact kit_nt))
  ))
section
variable {P : Program} {w : World} {K : PySem.W.Frag} {mg : Str → Option Value} {base : Heap}
def sp_law_take (_K : PySem.W.Frag) : Sp := fun vs H Q _ => ∃ (B : Box) (m : Int), vs = [.ref B.b, .int m] ∧ IsBk B ∧ B.I H ∧ 0 < m ∧ m ≤ 10 ^ 30 ∧ ∀ H' (d : Nat), Wg B H H' → (d : Int) < m → Q (.int d) H'
set_option maxHeartbeats 4000000 in
theorem ok_law_take (T : Top K mg) {f : Addr} {fd : FuncData} (D : Def K mg "_law_take" s_law_take ["box", "limit"] f fd) : FnOk P w K mg base CX0 1 f fd ["box", "limit"] (sp_law_take K) := by
  refine D.F.ok sc_law_take (fun vs H Q E h => ?_) (fun cdv A outer s H vs Q E hr h => ?_)
  · obtain ⟨B, m, rfl, _⟩ := h
    rfl
  · obtain ⟨B, m, rfl, ⟨b, rfl⟩, i0, m0, m1, q0⟩ := h
    have q : ∀ H' (d : Int), Wg (bkL b) H H' → 0 ≤ d → d < m → Q (.int d) H' := fun H' d w h0 h1 => by
      have z := q0 H' d.toNat w (by omega)
      rw [show ((d.toNat : Nat) : Int) = d by omega] at z
      exact z
    have w0 := Wg.refl i0
    have ⟨A, f, M, c, hb⟩ := i0
    have m9 : m ≠ 0 := by omega
    show _
    refine ⟨_, (pss_cons (ps_asg (pe_op op_add (pe_ix (r := rIxL K) ix_list (pv 0) pe_int (fun _ _ => rfl)) pe_int) (pg_sub (pv 0) pe_int set_list))
    (pss_cons (ps_if (PW.pt (pw_and (pt_cmpR op_eq (pe_ix (r := rIxL K) ix_list (pv 0) pe_int (fun _ _ => rfl)) pe_int (nomark _)) (pw_and1 (pt_cmpR op_gt (pe_ix (r := rIxL K) ix_list (pv 0) pe_int (fun _ _ => rfl)) pe_int (nomark _))))) (pss_cons (ps_set (i := 2) sc_law_take.nd rfl (.inl rfl) (pe_op op_modN (pe_callTy call_intQ (by rfl) T.b_int (by decide +kernel) (pa_cons (pe_ix (r := rIxL K) ix_list (pv 0) pe_int (fun _ _ => rfl)) pa_nil)) (pv 1)))
    (pss_cons (ps_asg (pe_op op_fdivV (pe_ix (r := rIxL K) ix_list (pv 0) pe_int (fun _ _ => rfl)) (pv 1)) (pg_sub (pv 0) pe_int set_list))
    (pss_one (ps_ret (pv 2))))) pss_nil)
    (pss_cons (ps_set (i := 3) sc_law_take.nd rfl (.inl rfl) (pe_op op_modN (pe_callTy call_intQ (by rfl) T.b_int (by decide +kernel) (pa_cons (pe_op op_add (pe_op op_add (pe_op op_mul (pe_ix (r := rIxL K) ix_list (pv 0) pe_int (fun _ _ => rfl)) pe_int) (pe_op op_mul (pe_ix (r := rIxL K) ix_list (pv 0) pe_int (fun _ _ => rfl)) pe_int)) pe_int) pa_nil)) pe_int))
    (pss_cons (ps_set (i := 3) sc_law_take.nd rfl (.inl rfl) (pe_op op_modN (pe_callTy call_intQ (by rfl) T.b_int (by decide +kernel) (pa_cons (pe_op op_add (pe_op op_mul (pv 3) (pe_op op_add (pv 3) (pe_op op_mul pe_int (pe_ix (r := rIxL K) ix_list (pv 0) pe_int (fun _ _ => rfl))))) (pe_op op_mul pe_int (pe_ix (r := rIxL K) ix_list (pv 0) pe_int (fun _ _ => rfl)))) pa_nil)) pe_int))
    (pss_one (ps_ret (pe_op op_modN (pe_callTy call_intQ (by rfl) T.b_int (by decide +kernel) (pa_cons (pe_op op_fdivN (pv 3) pe_int) pa_nil)) (pv 1)))))))), ?_⟩
    have hvb : (bkL b).b = b := rfl
    rw [hvb]
    walk_at "rx"
    have w1 : Wg (bkL b) H (upd H b (.lst ([V.int A, .int f, .int M, .int c].set 3 (.int (c + 1))))) := bk_put w0
    have cm : ∀ a b : Int, CMul (a.fmod 2147483647) b := fun a b => .inl ⟨by have := fmod_in (a := a) (m := 2147483647) (by decide); omega, by have := fmod_in (a := a) (m := 2147483647) (by decide); omega⟩
    refine ite2 (fun z => ?_) (fun z => ?_)
    · walk_at "rx"
      refine ite2 (fun x => ?_) (fun x => ?_)
      · walk_at "rx"
        refine rd_I (show CDivV A m from ⟨m0, m1⟩) ?_
        walk_at "rx"
        exact q _ _ (bk_put w1) (fmod_in m0).1 (fmod_in m0).2
      · walk_at "rx"
        refine rd_I (cm _ _) ?_
        walk_at "rx"
        exact q _ _ w1 (fmod_in m0).1 (fmod_in m0).2
    · walk_at "rx"
      refine rd_I (cm _ _) ?_
      walk_at "rx"
      exact q _ _ w1 (fmod_in m0).1 (fmod_in m0).2
def sp_law_laid (_K : PySem.W.Frag) : Sp := fun vs H Q _ => ∃ (B : Box) (n : Nat) (L : Addr) (xs : List Int), vs = [.ref B.b, .int (n : Int), .ref L] ∧ IsBk B ∧ B.I H ∧ L ∉ B.m ∧ H L = some (.lst (xs.map V.int)) ∧ xs.length ≤ n ∧ 1 ≤ n ∧ n ≤ 12 ∧
  ∀ H' D es, Wg B H H' → GT H' D es → es.Perm (xs ++ List.replicate (n - xs.length) (-1)) → Q (.ref D) H'
set_option maxHeartbeats 4000000 in
theorem ok_law_laid (T : Top K mg) {f : Addr} {fd : FuncData} (D : Def K mg "_law_laid" s_law_laid ["box", "blocks", "values"] f fd) : FnOk P w K mg base CX0 2 f fd ["box", "blocks", "values"] (sp_law_laid K) := by
  obtain ⟨f_law_take, fd_law_take, D_law_take⟩ := T.d__law_take
  have G_law_take : FnOk P w K mg base CX0 1 f_law_take fd_law_take ["box", "limit"] (sp_law_take K) := ok_law_take T D_law_take
  refine D.F.ok sc_law_laid (fun vs H Q E h => ?_) (fun cdv A outer s H vs Q E hr h => ?_)
  · obtain ⟨B, n, L, xs, rfl, _⟩ := h
    rfl
  · obtain ⟨B, n, L, xs, rfl, hB, i0, mL, hL, lx, n1, n12, q⟩ := h
    have hr1 : -100000 ≤ (n : Int) ∧ (n : Int) ≤ 100000 := by omega
    refine ⟨_, (pss_cons (ps_setLc (i := 3) (own := [("k", 7)]) (g := gName 7) (tt := tYes) rfl sc_law_laid.nd rfl rfl (sw_true rfl rfl rfl (by decide +kernel)) (pi_range1 (by rfl) T.b_range (pa_cons (pv 1) pa_nil))
      (blkOk_by (own := [("k", 7)]) (N := ["box", "blocks", "values", "free", "laid", "value", "at", "k"]) (sc := defScope s_law_laid) (by decide +kernel)) (fun _ _ _ _ _ => (pg_name (i := 7) sc_law_laid.nd rfl (.inl rfl))) (fun _ _ _ _ _ => pts_nil)
      (fun _ _ _ _ _ => (pv 7)))
    (pss_cons (ps_set (i := 4) sc_law_laid.nd rfl (.inl rfl) (pe_op op_rep (pe_lst (pa_cons (pe_un un_neg pe_int) pa_nil)) (pv 1)))
    (pss_cons (ps_for PassesOwn.never rfl (pi_list (pv 2)) (pg_name (i := 5) sc_law_laid.nd rfl (.inl rfl)) (pss_cons (ps_set (i := 6) sc_law_laid.nd rfl (.inl rfl) (pe_bm PySem.F.plainAttrs_list PySem.F.slot_list_pop PySem.F.type_list_pop mt_popQ (pv 3) (pa_cons (pe_call G_law_take hr (by rfl) D_law_take.g D_law_take.F.kp D_law_take.b .nil pass0 (pa_cons (pv 0) (pa_cons (pe_callB (r := rLenQ K) call_lenQ (by rfl) T.b_len PySem.boot_len (pa_cons (pv 3) pa_nil)) pa_nil))) pa_nil)))
    (pss_one (ps_asg (pv 5) (pg_sub (pv 4) (pv 6) set_list)))))
    (pss_one (ps_ret (pe_callTy (r := rTupF K) call_tupF (by rfl) T.b_tuple (by decide +kernel) (pa_cons (pv 4) pa_nil))))))), ?_⟩
    walk_at "rx"
    rw [show ((n : Int)).toNat = n by omega]
    refine lc_acc walk_rng (fun i acc => acc = nvs (List.range i)) rfl (fun i acc hi e => by rw [e, nvs_len, List.length_range]; omega) (fun _ _ => trivial) ?_ ?_
    · rintro i x Hx Hy acc Qc R hi Sx e ⟨rfl, rfl⟩ qc rc
      walk_at "rx"
      refine ⟨rfl, ?_⟩
      walk_at "rx"
      refine qc _ _ (Same.refl _) ?_
      rw [e, List.range_succ, nvs_app]
      rfl
    intro H1 F acc S1 nF hF e
    subst e
    walk_at "rx"
    refine rd_newQ (by simp) fun H2 O S2 nO hO => ?_
    walk_at "rx"
    refine rd_rep (k := (n : Int)) hO (by omega) (by omega) (by decide) fun D nD => ?_
    obtain ⟨H3, eH, S3, hD⟩ := new_gen (.lst (List.replicate ((n : Int)).toNat [V.int (-1)]).flatten) nD
    rw [← eH]
    rw [flat_one, show ((n : Int)).toNat = n by omega, ← List.map_replicate] at hD
    have S03 := (S1.trans S2).trans S3
    have w3 := Wg.ofSame i0 S03
    have hF3 := S3 _ _ (S2 _ _ hF)
    have nF0 := nF
    have nD0 := (S1.trans S2).free nD
    have mF : F ∉ B.m := B.nem i0 nF
    have mD : D ∉ B.m := B.nem i0 nD0
    have nFD : F ≠ D := fun z => by
      have := S2 _ _ hF
      rw [z, nD] at this
      cases this
    have nLF : L ≠ F := fun z => by rw [z, nF] at hL; cases hL
    have nLD : L ≠ D := fun z => by rw [z, nD0] at hL; cases hL
    have hL3 := S03 _ _ hL
    walk_at "rx"
    refine fr_it (walk_list (xs := xs.map V.int)) (fun i σ H' => ∃ (fr : List Nat) (ls : List Int) (y5 y6 y7 : Option V), σ = [some (.ref B.b), some (.int (n : Int)), some (.ref L), some (.ref F), some (.ref D), y5, y6, y7] ∧ Wg B H H' ∧ H' L = some (.lst (xs.map V.int)) ∧ H' F = some (.lst (nvs fr)) ∧ H' D = some (.lst (ls.map V.int)) ∧
        fr.Nodup ∧ fr.length + i = n ∧ ls.length = n ∧ (∀ f ∈ fr, ls[f]? = some (-1)) ∧ ls.Perm (xs.take i ++ List.replicate (n - i) (-1)))
      ⟨List.range n, List.replicate n (-1), none, none, none, rfl, w3, hL3, hF3, hD, List.nodup_range, by rw [List.length_range]; rfl, by rw [List.length_replicate], fun f hf => by rw [List.getElem?_replicate, if_pos (List.mem_range.mp hf)], List.Perm.refl _⟩ (fun i σ H' _ p => ?_) ?_ ?_
    · obtain ⟨_, _, _, _, _, _, _, h, _⟩ := p
      exact SqL.of h
    · rintro i x σ Ha Hb hi ⟨fr, ls, y5, y6, y7, rfl, wa, hLa, hFa, hDa, nd, lf, ll, neg, pm⟩ ⟨eH2, ex⟩
      subst eH2
      have hi2 : i < xs.length := by rw [List.length_map] at hi; exact hi
      rw [List.getElem?_map, List.getElem?_eq_getElem hi2] at ex
      cases ex
      have lfr : 0 < fr.length := by omega
      have f13 : ((nvs fr).length : Int) ≤ 10 ^ 30 := by rw [nvs_len]; omega
      walk_at "rx"
      refine ⟨B, ((nvs fr).length : Nat), rfl, hB, wa.i1, by rw [nvs_len]; omega, f13, fun Hc d wc hd => ?_⟩
      rw [nvs_len] at hd
      have hFc := wc.lst mF hFa
      have hDc := wc.lst mD hDa
      have hLc := wc.lst mL hLa
      have hd2 : d < fr.length := by omega
      have ed : fr[d]? = some fr[d] := List.getElem?_eq_getElem hd2
      walk_at "rx"
      refine rd_popQ hFc (nvs_get ed) (by omega) ?_
      have hD2 : (upd Hc F (.lst ((nvs fr).eraseIdx d))) D = some (.lst (ls.map V.int)) := by rw [upd_ne nFD.symm]; exact hDc
      have hL2 : (upd Hc F (.lst ((nvs fr).eraseIdx d))) L = some (.lst (xs.map V.int)) := by rw [upd_ne nLF]; exact hLc
      have w2 : Wg B H (upd Hc F (.lst ((nvs fr).eraseIdx d))) := (wa.trans wc).mut nF0
      have hF2 : (upd Hc F (.lst ((nvs fr).eraseIdx d))) F = some (.lst (nvs (fr.eraseIdx d))) := by rw [upd_same, nvs_eraseIdx]
      generalize upd Hc F (.lst ((nvs fr).eraseIdx d)) = H5 at *
      have en := neg _ (List.getElem_mem hd2)
      have lt := (List.getElem?_eq_some_iff.mp en).1
      have ix : ixN (ls.map V.int).length ((fr[d] : Nat) : Int) = some fr[d] := ixN_of rfl (by rw [List.length_map]; exact lt)
      walk_at "rx"
      obtain ⟨p1, p2⟩ := set_perm (v := xs[i]) en
      refine ⟨fr.eraseIdx d, ls.set fr[d] xs[i], _, _, _, rfl, w2.mut nD0, by rw [upd_ne nLD]; exact hL2, by rw [upd_ne nFD]; exact hF2, by rw [upd_same, List.map_set], erase_nd nd d, ?_, by rw [List.length_set]; exact ll, fun f hf => ?_, ?_⟩
      · rw [List.length_eraseIdx_of_lt hd2]
        omega
      · have ne : fr[d] ≠ f := fun z => erase_ne nd ed (by rw [z]; exact hf)
        rw [List.getElem?_set_ne ne]
        exact neg f (erase_mem hf)
      · have k1 : n - i = (n - (i + 1)) + 1 := by omega
        rw [k1, List.replicate_succ] at pm
        have a := List.Perm.cons_inv ((p2.symm.trans pm).trans List.perm_middle)
        rw [take_next hi2, List.append_assoc]
        exact p1.trans ((a.cons _).trans List.perm_middle.symm)
    · rintro σ Ha ⟨fr, ls, y5, y6, y7, rfl, wa, hLa, hFa, hDa, nd, lf, ll, neg, pm⟩
      rw [List.length_map, List.take_length] at pm
      walk_at "rx"
      exact rd_tupF hDa fun H2 l S2 nl gl => q H2 l ls (wa.same S2) gl pm
def sp_law_values (_K : PySem.W.Frag) : Sp := fun vs H Q _ => ∃ (B : Box) (m : Nat), vs = [.ref B.b, .int (m : Int)] ∧ IsBk B ∧ B.I H ∧ m ≤ 12 ∧ ∀ H' D (xs : List Int), Wg B H H' → H D = none → H' D = some (.lst (xs.map V.int)) → xs.length = m → xs.Nodup → (∀ x ∈ xs, 0 ≤ x ∧ x ≤ 999) → Q (.ref D) H'
set_option maxHeartbeats 4000000 in
theorem ok_law_values (T : Top K mg) {f : Addr} {fd : FuncData} (D : Def K mg "_law_values" s_law_values ["box", "many"] f fd) : FnOk P w K mg base CX0 2 f fd ["box", "many"] (sp_law_values K) := by
  obtain ⟨f_law_take, fd_law_take, D_law_take⟩ := T.d__law_take
  have G_law_take : FnOk P w K mg base CX0 1 f_law_take fd_law_take ["box", "limit"] (sp_law_take K) := ok_law_take T D_law_take
  refine D.F.ok sc_law_values (fun vs H Q E h => ?_) (fun cdv A outer s H vs Q E hr h => ?_)
  · obtain ⟨B, m, rfl, _⟩ := h
    rfl
  · obtain ⟨B, m, rfl, hB, i0, m12, q⟩ := h
    have hr1 : -100000 ≤ (m : Int) ∧ (m : Int) ≤ 100000 := by omega
    refine ⟨_, (pss_cons (ps_set (i := 2) sc_law_values.nd rfl (.inl rfl) (pe_call G_law_take hr (by rfl) D_law_take.g D_law_take.F.kp D_law_take.b .nil pass0 (pa_cons (pv 0) (pa_cons pe_int pa_nil))))
    (pss_cons (ps_set (i := 3) sc_law_values.nd rfl (.inl rfl) (pe_call G_law_take hr (by rfl) D_law_take.g D_law_take.F.kp D_law_take.b .nil pass0 (pa_cons (pv 0) (pa_cons pe_int pa_nil))))
    (pss_cons (ps_set (i := 4) sc_law_values.nd rfl (.inl rfl) (pe_lst pa_nil))
    (pss_cons (ps_for PassesOwn.never rfl (pi_range1 (by rfl) T.b_range (pa_cons (pv 1) pa_nil)) (pg_name (i := 5) sc_law_values.nd rfl (.inl rfl)) (pss_cons (ps_set (i := 6) sc_law_values.nd rfl (.inl rfl) (pe_call G_law_take hr (by rfl) D_law_take.g D_law_take.F.kp D_law_take.b .nil pass0 (pa_cons (pv 0) (pa_cons pe_int pa_nil))))
    (C8.pss_cut (ps_if (PW.pt (pw_or (pt_cmpR op_eq (pv 2) pe_int (nomark _)) (pw_or1 (PW.pt (pw_and (pt_cmpR op_eq (pv 2) pe_int (nomark _)) (pw_and1 (pt_cmpR op_eq (pe_call G_law_take hr (by rfl) D_law_take.g D_law_take.F.kp D_law_take.b .nil pass0 (pa_cons (pv 0) (pa_cons pe_int pa_nil))) pe_int (nomark _)))))))) (pss_one (ps_set (i := 6) sc_law_values.nd rfl (.inl rfl) (pe_op op_add (pe_op op_mul (pv 3) pe_int) (pe_op op_modN (pe_callTy call_intQ (by rfl) T.b_int (by decide +kernel) (pa_cons (pv 6) pa_nil)) pe_int)))) pss_nil)
    (pss_cons (ps_for PassesOwn.never rfl (pi_range1 (by rfl) T.b_range (pa_cons pe_int pa_nil)) (pg_name (i := 7) sc_law_values.nd rfl (.inl rfl)) (pss_one (ps_if (pt_cmpR (r := rIn K false) op_in_seq (pv 6) (pv 4) (by rfl)) (pss_one (ps_set (i := 6) sc_law_values.nd rfl (.inl rfl) (pe_op op_add (pe_op op_mul (pe_op op_fdivN (pv 6) pe_int) pe_int) (pe_op op_modN (pe_callTy call_intQ (by rfl) T.b_int (by decide +kernel) (pa_cons (pe_op op_add (pv 6) pe_int) pa_nil)) pe_int)))) pss_nil)))
    (pss_one (ps_expr (pe_bm PySem.F.plainAttrs_list PySem.F.slot_list_append PySem.F.type_list_append mt_append (pv 4) (pa_cons (pv 6) pa_nil))))))))
    (pss_one (ps_ret (pv 4))))))), ?_⟩
    walk_at "rx"
    refine ⟨B, 3, rfl, hB, i0, by decide, by decide, fun H1 way w1 hw => ?_⟩
    walk_at "rx"
    refine ⟨B, 10, rfl, hB, w1.i1, by decide, by decide, fun H2 kind w2 hk => ?_⟩
    walk_at "rx"
    refine rd_newQ (by simp) fun H3 D S3 nD hD => ?_
    have w3 := (w1.trans w2).same S3
    have mD : D ∉ B.m := B.nem (w1.trans w2).i1 nD
    have nD0 := (w1.trans w2).free nD
    walk_at "rx"
    rw [show ((m : Int)).toNat = m by omega]
    refine fr_rng0 (fun i σ H' => ∃ (xs : List Int) (y5 y6 y7 : Option V), σ = [some (.ref B.b), some (.int (m : Int)), some (.int (way : Int)), some (.int (kind : Int)), some (.ref D), y5, y6, y7] ∧ Wg B H H' ∧ H' D = some (.lst (xs.map V.int)) ∧ xs.length = i ∧ xs.Nodup ∧ ∀ x ∈ xs, 0 ≤ x ∧ x ≤ 999) ⟨[], none, none, none, rfl, w3, hD, rfl, List.nodup_nil, fun x hx => by cases hx⟩ ?_ ?_
    · rintro i σ Ha hi ⟨xs, y5, y6, y7, rfl, wa, hDa, lx, nd, rg⟩
      walk_at "rx"
      refine ⟨B, 1000, rfl, hB, wa.i1, by decide, by decide, fun Hb v0 wb hv0 => ?_⟩
      have hDb := wb.lst mD hDa
      have wab := wa.trans wb
      walk_at "rx"
      refine ⟨fun σ' H' => ∃ v : Int, 0 ≤ v ∧ v ≤ 999 ∧ σ' = [some (.ref B.b), some (.int (m : Int)), some (.int (way : Int)), some (.int (kind : Int)), some (.ref D), some (.int (i : Int)), some (.int v), y7] ∧ Wg B H H' ∧ H' D = some (.lst (xs.map V.int)), ?_, ?_⟩
      · have st := fmod_in (a := (v0 : Int)) (m := 100) (by decide)
        walk_at "rx"
        refine ite2 (fun z => ?_) (fun z => ?_)
        · walk_at "rx"
          exact ⟨_, by omega, by omega, rfl, wab, hDb⟩
        · walk_at "rx"
          refine ite2 (fun z2 => ?_) (fun z2 => ?_)
          · walk_at "rx"
            refine ⟨B, 2, rfl, hB, wab.i1, by decide, by decide, fun Hc d wc hd => ?_⟩
            have hDc := wc.lst mD hDb
            walk_at "rx"
            refine ite2 (fun z3 => ?_) (fun z3 => ?_)
            · walk_at "rx"
              exact ⟨_, by omega, by omega, rfl, wab.trans wc, hDc⟩
            · walk_at "rx"
              exact ⟨_, by omega, by omega, rfl, wab.trans wc, hDc⟩
          · walk_at "rx"
            exact ⟨_, by omega, by omega, rfl, wab, hDb⟩
      · rintro σ' Hc ⟨v, v0', v1', rfl, wc, hDc⟩
        have h12 : -100000 ≤ (12 : Int) ∧ (12 : Int) ≤ 100000 := by decide
        walk_at "rx"
        refine fr_rng0 (fun j σ H' => ∃ (k : Nat) (u : Int) (y7 : Option V), σ = [some (.ref B.b), some (.int (m : Int)), some (.int (way : Int)), some (.int (kind : Int)), some (.ref D), some (.int (i : Int)), some (.int u), y7] ∧ H' = Hc ∧ Cand (c100 v) xs k j u) ⟨0, v, y7, rfl, rfl, by have := Cand.zero (c := c100 v) (found := xs); rw [c100_zero] at this; exact this⟩ ?_ ?_
        · rintro j σ H' hj ⟨k, u, y7, rfl, rfl, cd⟩
          have ur : 0 ≤ u ∧ u ≤ 999 := by rw [cd.eq]; exact c100_in v0' v1' k
          walk_at "rx"
          refine rd_inLf hDc rfl (ints_flat xs) ?_
          rw [inV_ints]
          by_cases z : u ∈ xs
          · rw [decide_eq_true z]
            walk_at "rx"
            refine ⟨k + 1, _, _, rfl, rfl, ?_⟩
            have := cd.step z
            rw [c100_next, ← cd.eq] at this
            exact this
          · rw [decide_eq_false z]
            walk_at "rx"
            exact ⟨k, u, _, rfl, rfl, cd.stay z⟩
        · rintro σ H' ⟨k, u, y7, rfl, rfl, cd⟩
          have ur : 0 ≤ u ∧ u ≤ 999 := by rw [cd.eq]; exact c100_in v0' v1' k
          have nu := cd.done (by omega) (fun a b ha hb e => c100_inj v a b ha hb e)
          have l1000 : (xs.map V.int).length < 1000 := by rw [List.length_map]; omega
          walk_at "rx"
          refine ⟨xs ++ [u], _, _, _, rfl, wc.mut nD0, by rw [upd_same, List.map_append]; rfl, by rw [List.length_append, lx]; rfl, ?_, fun x hx => ?_⟩
          · rw [List.nodup_append]
            exact ⟨nd, by simp, fun a ha b hb e => nu (by rw [← List.mem_singleton.mp hb, ← e]; exact ha)⟩
          · rcases List.mem_append.mp hx with y | y
            · exact rg x y
            · rw [List.mem_singleton.mp y]; exact ur
    · rintro σ Ha ⟨xs, y5, y6, y7, rfl, wa, hDa, lx, nd, rg⟩
      walk_at "rx"
      exact q Ha D xs wa nD0 hDa lx nd rg
def sp_law_before (_K : PySem.W.Frag) : Sp := fun vs H Q _ => ∃ (B : Box), vs = [.ref B.b] ∧ IsBk B ∧ B.I H ∧ ∀ H' a es, Wg B H H' → GT H' a es → Img es → (full es).Nodup → Q (.ref a) H'
set_option maxHeartbeats 4000000 in
theorem ok_law_before (T : Top K mg) {f : Addr} {fd : FuncData} (D : Def K mg "_law_before" s_law_before ["box"] f fd) : FnOk P w K mg base CX0 3 f fd ["box"] (sp_law_before K) := by
  obtain ⟨f_law_take, fd_law_take, D_law_take⟩ := T.d__law_take
  have G_law_take : FnOk P w K mg base CX0 1 f_law_take fd_law_take ["box", "limit"] (sp_law_take K) := ok_law_take T D_law_take
  obtain ⟨f_law_laid, fd_law_laid, D_law_laid⟩ := T.d__law_laid
  have G_law_laid : FnOk P w K mg base CX0 2 f_law_laid fd_law_laid ["box", "blocks", "values"] (sp_law_laid K) := ok_law_laid T D_law_laid
  obtain ⟨f_law_values, fd_law_values, D_law_values⟩ := T.d__law_values
  have G_law_values : FnOk P w K mg base CX0 2 f_law_values fd_law_values ["box", "many"] (sp_law_values K) := ok_law_values T D_law_values
  refine D.F.ok sc_law_before (fun vs H Q E h => ?_) (fun cdv A outer s H vs Q E hr h => ?_)
  · obtain ⟨B, rfl, _⟩ := h
    rfl
  · obtain ⟨B, rfl, hB, i0, q⟩ := h
    refine ⟨_, (pss_cons (ps_set (i := 1) sc_law_before.nd rfl (.inl rfl) (pe_op op_add pe_int (pe_call G_law_take (hr.mono (by decide)) (by rfl) D_law_take.g D_law_take.F.kp D_law_take.b .nil pass0 (pa_cons (pv 0) (pa_cons pe_int pa_nil)))))
    (pss_cons (ps_set (i := 2) sc_law_before.nd rfl (.inl rfl) (pe_call G_law_take (hr.mono (by decide)) (by rfl) D_law_take.g D_law_take.F.kp D_law_take.b .nil pass0 (pa_cons (pv 0) (pa_cons (pe_op op_add (pv 1) pe_int) pa_nil))))
    (pss_cons (ps_set (i := 3) sc_law_before.nd rfl (.inl rfl) (pe_call G_law_take (hr.mono (by decide)) (by rfl) D_law_take.g D_law_take.F.kp D_law_take.b .nil pass0 (pa_cons (pv 0) (pa_cons pe_int pa_nil))))
    (C8.pss_cut (ps_if (pt_cmpR op_gt (pv 3) pe_int (nomark _)) (pss_one (ps_set (i := 2) sc_law_before.nd rfl (.inl rfl) (pe_callB (call_minQ rfl) (by rfl) T.b_min (by decide +kernel) (pa_cons (pe_callB (call_max2 rfl) (by rfl) T.b_max (by decide +kernel) (pa_cons pe_int (pa_cons (pe_op op_sub (pv 1) pe_int) pa_nil))) (pa_cons (pv 3) pa_nil))))) pss_nil)
    (pss_one (ps_ret (pe_call G_law_laid hr (by rfl) D_law_laid.g D_law_laid.F.kp D_law_laid.b .nil pass0 (pa_cons (pv 0) (pa_cons (pv 1) (pa_cons (pe_call G_law_values hr (by rfl) D_law_values.g D_law_values.F.kp D_law_values.b .nil pass0 (pa_cons (pv 0) (pa_cons (pe_op op_sub (pv 1) (pv 2)) pa_nil))) pa_nil)))))))))), ?_⟩
    walk_at "rx"
    refine ⟨B, 12, rfl, hB, i0, by decide, by decide, fun H1 d w1 hd => ?_⟩
    walk_at "rx"
    refine ⟨B, _, rfl, hB, w1.i1, by omega, by omega, fun H2 e0 w2 he => ?_⟩
    walk_at "rx"
    refine ⟨B, 4, rfl, hB, w2.i1, by decide, by decide, fun H3 way w3 hway => ?_⟩
    have w03 := (w1.trans w2).trans w3
    walk_at "rx"
    refine ⟨fun σ H' => ∃ e : Nat, e ≤ 1 + d ∧ σ = [some (.ref B.b), some (.int (1 + (d : Int))), some (.int (e : Int)), some (.int (way : Int))] ∧ H' = H3, ?_, ?_⟩
    · walk_at "rx"
      refine ite2 (fun z => ?_) (fun z => ?_)
      · walk_at "rx"
        refine ⟨_, _, rfl, ?_⟩
        walk_at "rx"
        obtain ⟨e, ee, le⟩ : ∃ e : Nat, (if (way : Int) < (if 1 + (d : Int) - 1 > 1 then 1 + (d : Int) - 1 else 1) then (way : Int) else (if 1 + (d : Int) - 1 > 1 then 1 + (d : Int) - 1 else 1)) = (e : Int) ∧ e ≤ 1 + d := by
          by_cases k : 1 + (d : Int) - 1 > 1
          · rw [if_pos k]
            by_cases y : (way : Int) < 1 + (d : Int) - 1
            · rw [if_pos y]; exact ⟨way, rfl, by omega⟩
            · rw [if_neg y]; exact ⟨d, by omega, by omega⟩
          · rw [if_neg k]
            by_cases y : (way : Int) < 1
            · rw [if_pos y]; exact ⟨way, rfl, by omega⟩
            · rw [if_neg y]; exact ⟨1, rfl, by omega⟩
        rw [ee]
        exact ⟨e, le, rfl, rfl⟩
      · walk_at "rx"
        exact ⟨e0, by omega, rfl, rfl⟩
    · rintro σ H' ⟨e, le, rfl, rfl⟩
      walk_at "rx"
      refine ⟨B, 1 + d - e, by rw [show ((1 + d - e : Nat) : Int) = 1 + (d : Int) - (e : Int) by omega], hB, w3.i1, by omega, fun H4 D xs w4 nD hD lx nd rg => ?_⟩
      walk_at "rx"
      refine ⟨B, 1 + d, D, xs, by rw [show ((1 + d : Nat) : Int) = 1 + (d : Int) by omega], hB, w4.i1, B.nem w03.i1 nD, hD, by omega, by omega, by omega, fun H5 a es w5 ga pm => ?_⟩
      exact q H5 a es ((w03.trans w4).trans w5) ga (img_of (by omega) (by omega) (by omega) rg pm) (full_nd (fun x hx => (rg x hx).1) nd pm)
def sp_law_box (K : PySem.W.Frag) : Sp := fun vs H Q _ => ∃ (a : Addr) (ns : List Int) (k : Nat), vs = [.ref a, .int (k : Int)] ∧ SqL K H a (ns.map V.int) ∧ ns.length ≤ 63 ∧ k ≤ 100 ∧ ∀ H' b, Same H H' → H b = none → (bkL b).I H' → Q (.ref b) H'
set_option maxHeartbeats 4000000 in
theorem ok_law_box (T : Top K mg) {f : Addr} {fd : FuncData} (D : Def K mg "_law_box" s_law_box ["script", "at"] f fd) : FnOk P w K mg base CX0 1 f fd ["script", "at"] (sp_law_box K) := by
  refine D.F.ok sc_law_box (fun vs H Q E h => ?_) (fun cdv A outer s H vs Q E hr h => ?_)
  · obtain ⟨a, ns, k, rfl, _⟩ := h
    rfl
  · obtain ⟨a, ns, k, rfl, hS, hl, k100, q⟩ := h
    refine ⟨_, (C8.pss_cut (ps_if (pt_cmpR op_lt (pv 1) (pe_callB (r := rLenQ K) call_lenQ (by rfl) T.b_len PySem.boot_len (pa_cons (pv 0) pa_nil)) (nomark _)) (pss_one (ps_set (i := 2) sc_law_box.nd rfl (.inl rfl) (pe_ix (r := rIxL K) ix_list (pv 0) (pv 1) (fun _ _ => rfl)))) (pss_one (ps_set (i := 2) sc_law_box.nd rfl (.inl rfl) (pe_op op_add (pe_op op_modN (pe_callTy (r := rIntO) call_intO (by rfl) T.b_int (by decide +kernel) (pa_cons (pe_callB (cr_sum rfl) (by rfl) T.b_sum (by decide +kernel) (pa_cons (pe_slice sl_list (pv 0) po_none (po_some pe_int)) pa_nil)) pa_nil)) pe_int) (pe_op op_mul pe_int (pv 1))))))
    (pss_one (ps_ret (pe_lst (pa_cons (pe_callB call_absQ (by rfl) T.b_abs (by decide +kernel) (pa_cons (pv 2) pa_nil)) (pa_cons (pe_callTy (r := rIntO) call_intO (by rfl) T.b_int (by decide +kernel) (pa_cons (pe_cmpR op_ge (pe_callB call_absQ (by rfl) T.b_abs (by decide +kernel) (pa_cons (pv 2) pa_nil)) (pe_op op_pow pe_int pe_int) (nomark _)) pa_nil)) (pa_cons (pe_op op_add (pe_op op_modN (pe_callTy (r := rIntO) call_intO (by rfl) T.b_int (by decide +kernel) (pa_cons (pv 2) pa_nil)) pe_int) (pe_op op_mul pe_int (pv 1))) (pa_cons pe_int pa_nil)))))))), ?_⟩
    walk_at "rx"
    refine ⟨fun σ H1 => ∃ cell, σ = [some (.ref a), some (.int (k : Int)), some (.int cell)] ∧ Same H H1, ?_, ?_⟩
    · walk_at "rx"
      refine ⟨a, _, rfl, .inl hS, ?_⟩
      walk_at "rx"
      rw [List.length_map]
      by_cases z : k < ns.length
      · rw [decide_eq_true (show (k : Int) < ((ns.length : Nat) : Int) by omega)]
        walk_at "rx"
        refine rd_ixL hS (atI_ints (by omega) (by omega)) ?_
        walk_at "rx"
        exact ⟨_, rfl, Same.refl _⟩
      · rw [decide_eq_false (show ¬ (k : Int) < ((ns.length : Nat) : Int) by omega)]
        walk_at "rx"
        refine rd_slL hS fun l nl => ?_
        obtain ⟨ms, em⟩ : ∃ ms : List Int, cutV (ns.map V.int) none (some 1) = ms.map V.int := ⟨ns.take (HT.sIx (ns.map V.int).length (ns.map V.int).length (some 1) - 0), by
          unfold cutV
          show List.take _ (List.drop 0 (ns.map V.int)) = _
          rw [List.drop_zero, List.map_take]
          rfl⟩
        rw [em]
        obtain ⟨H1, eH, S1, h1⟩ := new_gen (.lst (ms.map V.int)) nl
        rw [← eH]
        refine ⟨l, ms, rfl, SqL.of h1, ?_⟩
        walk_at "rx"
        exact ⟨_, rfl, S1⟩
    · rintro σ H1 ⟨cell, rfl, S1⟩
      walk_at "rx"
      refine rd_intOB ?_
      walk_at "rx"
      refine rd_newQ (by simp) fun H2 b S2 nb hb => q H2 b (S1.trans S2) (S1.free nb) ⟨_, _, _, _, hb⟩
def sp_law_turned (_K : PySem.W.Frag) : Sp := fun vs H Q _ => ∃ (B : Box) (a : Addr) (es : List Int), vs = [.ref B.b, .ref a] ∧ IsBk B ∧ B.I H ∧ TG H a es ∧ Img es ∧ ∀ H' D (fs : List Int), Wg B H H' → H D = none → H' D = some (.lst (fs.map V.int)) → fs.Perm es → Q (.ref D) H'
set_option maxHeartbeats 4000000 in
theorem ok_law_turned (T : Top K mg) {f : Addr} {fd : FuncData} (D : Def K mg "_law_turned" s_law_turned ["box", "before"] f fd) : FnOk P w K mg base CX0 2 f fd ["box", "before"] (sp_law_turned K) := by
  obtain ⟨f_law_take, fd_law_take, D_law_take⟩ := T.d__law_take
  have G_law_take : FnOk P w K mg base CX0 1 f_law_take fd_law_take ["box", "limit"] (sp_law_take K) := ok_law_take T D_law_take
  refine D.F.ok sc_law_turned (fun vs H Q E h => ?_) (fun cdv A outer s H vs Q E hr h => ?_)
  · obtain ⟨B, a, es, rfl, _⟩ := h
    rfl
  · obtain ⟨B, a, es, rfl, hB, i0, ha, I, q⟩ := h
    have e12 := I.2.1
    have hr1 : -100000 ≤ ((es.length : Nat) : Int) ∧ ((es.length : Nat) : Int) ≤ 100000 := by omega
    refine ⟨_, (pss_cons (ps_set (i := 2) sc_law_turned.nd rfl (.inl rfl) (pe_callTy (r := rLstQ K) call_lstQ (by rfl) T.b_list (by decide +kernel) (pa_cons (pv 1) pa_nil)))
    (pss_cons (ps_setLc (i := 3) (own := [("at", 9)]) (g := gName 9) (tt := _) rfl sc_law_turned.nd rfl rfl (sw_true rfl rfl rfl (by decide +kernel)) (pi_range1 (by rfl) T.b_range (pa_cons (pe_callB (r := rLenQ K) call_lenQ (by rfl) T.b_len PySem.boot_len (pa_cons (pv 1) pa_nil)) pa_nil))
      (blkOk_by (own := [("at", 9)]) (N := ["box", "before", "laid", "free", "turn", "one", "two", "kept", "three", "at"]) (sc := defScope s_law_turned) (by decide +kernel)) (fun _ _ _ _ _ => (pg_name (i := 9) sc_law_turned.nd rfl (.inl rfl))) (fun _ _ _ _ _ => pts_one (pt_cmpR op_ne (pe_ix (r := rIxT K) ix_tup (pv 1) (pv 9) (fun _ _ => rfl)) (pe_un un_neg pe_int) (nomark _)))
      (fun _ _ _ _ _ => (pv 9)))
    (pss_cons (ps_for PassesOwn.never rfl (pi_range1 (by rfl) T.b_range (pa_cons (pe_call G_law_take hr (by rfl) D_law_take.g D_law_take.F.kp D_law_take.b .nil pass0 (pa_cons (pv 0) (pa_cons pe_int pa_nil))) pa_nil)) (pg_name (i := 4) sc_law_turned.nd rfl (.inl rfl)) (pss_one (ps_if (pt_cmpR op_gt (pe_callB (r := rLenQ K) call_lenQ (by rfl) T.b_len PySem.boot_len (pa_cons (pv 3) pa_nil)) pe_int (nomark _)) (pss_cons (ps_set (i := 5) sc_law_turned.nd rfl (.inl rfl) (pe_bm PySem.F.plainAttrs_list PySem.F.slot_list_pop PySem.F.type_list_pop mt_popQ (pv 3) (pa_cons (pe_call G_law_take hr (by rfl) D_law_take.g D_law_take.F.kp D_law_take.b .nil pass0 (pa_cons (pv 0) (pa_cons (pe_callB (r := rLenQ K) call_lenQ (by rfl) T.b_len PySem.boot_len (pa_cons (pv 3) pa_nil)) pa_nil))) pa_nil)))
    (pss_cons (ps_set (i := 6) sc_law_turned.nd rfl (.inl rfl) (pe_bm PySem.F.plainAttrs_list PySem.F.slot_list_pop PySem.F.type_list_pop mt_popQ (pv 3) (pa_cons (pe_call G_law_take hr (by rfl) D_law_take.g D_law_take.F.kp D_law_take.b .nil pass0 (pa_cons (pv 0) (pa_cons (pe_callB (r := rLenQ K) call_lenQ (by rfl) T.b_len PySem.boot_len (pa_cons (pv 3) pa_nil)) pa_nil))) pa_nil)))
    (pss_cons (ps_set (i := 7) sc_law_turned.nd rfl (.inl rfl) (pe_ix (r := rIxL K) ix_list (pv 2) (pv 5) (fun _ _ => rfl)))
    (pss_cons (ps_asg (pe_ix (r := rIxL K) ix_list (pv 2) (pv 6) (fun _ _ => rfl)) (pg_sub (pv 2) (pv 5) set_list))
    (C8.pss_cut (ps_if (PW.pt (pw_and (pt_cmpR (op_neD hr.units) (pv 3) (pe_lst pa_nil) (nomark _)) (pw_and1 (pt_cmpR op_eq (pe_call G_law_take hr (by rfl) D_law_take.g D_law_take.F.kp D_law_take.b .nil pass0 (pa_cons (pv 0) (pa_cons pe_int pa_nil))) pe_int (nomark _))))) (pss_cons (ps_set (i := 8) sc_law_turned.nd rfl (.inl rfl) (pe_bm PySem.F.plainAttrs_list PySem.F.slot_list_pop PySem.F.type_list_pop mt_popQ (pv 3) (pa_cons (pe_call G_law_take hr (by rfl) D_law_take.g D_law_take.F.kp D_law_take.b .nil pass0 (pa_cons (pv 0) (pa_cons (pe_callB (r := rLenQ K) call_lenQ (by rfl) T.b_len PySem.boot_len (pa_cons (pv 3) pa_nil)) pa_nil))) pa_nil)))
    (pss_cons (ps_asg (pe_ix (r := rIxL K) ix_list (pv 2) (pv 8) (fun _ _ => rfl)) (pg_sub (pv 2) (pv 6) set_list))
    (pss_one (ps_set (i := 6) sc_law_turned.nd rfl (.inl rfl) (pv 8))))) pss_nil)
    (pss_one (ps_asg (pv 7) (pg_sub (pv 2) (pv 6) set_list)))))))) pss_nil)))
    (pss_one (ps_ret (pv 2)))))), ?_⟩
    walk_at "rx"
    refine rd_newL fun H1 D S1 nD hD => ?_
    have ha1 := ha.same S1
    have mD : D ∉ B.m := B.nem i0 nD
    walk_at "rx"
    rw [show (((es.length : Nat) : Int)).toNat = es.length by omega]
    refine lc_acc walk_rng (fun i acc => ∃ ps, acc = nvs ps ∧ ps.Nodup ∧ (∀ p ∈ ps, p < i)) ⟨[], rfl, List.nodup_nil, fun p hp => by cases hp⟩ (fun i acc hi e => by
      obtain ⟨ps, rfl, nd, lt⟩ := e
      have := nd_len i ps nd lt
      rw [nvs_len]
      omega) (fun _ _ => trivial) ?_ ?_
    · rintro i x Hx Hy acc Qc R hi Sx ⟨ps, rfl, nd, lt⟩ ⟨rfl, rfl⟩ qc rc
      have hax := ha1.same Sx
      have ai : atI (es.map V.int) (i : Int) = some (.int (es.getD i 0)) := atI_ints (by omega) (by omega)
      walk_at "rx"
      refine ⟨rfl, ?_⟩
      walk_at "rx"
      by_cases z : es.getD i 0 = -1
      · rw [decide_eq_true (show V.int (es.getD i 0) = V.int (-1) from by rw [z])]
        walk_at "rx"
        exact rc _ (Same.refl _) ⟨ps, rfl, nd, fun p hp => by have := lt p hp; omega⟩
      · rw [decide_eq_false (show ¬ V.int (es.getD i 0) = V.int (-1) from fun w => z (V.int.inj w))]
        walk_at "rx"
        refine qc _ _ (Same.refl _) ⟨ps ++ [i], by rw [nvs_app]; rfl, ?_, fun p hp => ?_⟩
        · rw [List.nodup_append]
          exact ⟨nd, by simp, fun a ha b hb e => by have := lt a ha; rw [List.mem_singleton.mp hb] at e; omega⟩
        · rcases List.mem_append.mp hp with y | y
          · have := lt p y; omega
          · rw [List.mem_singleton.mp y]; omega
    rintro H2 F acc S2 nF hF ⟨ps, rfl, nd0, lt0⟩
    have w2 := (Wg.ofSame i0 S1).same S2
    have nF0 := S1.free nF
    have mF : F ∉ B.m := B.nem i0 nF0
    have hD2 := S2 _ _ hD
    have nFD : F ≠ D := fun z => by rw [z, hD] at nF; cases nF
    walk_at "rx"
    refine ⟨B, 7, rfl, hB, w2.i1, by decide, by decide, fun H3 t w3 ht => ?_⟩
    have hr2 : -100000 ≤ (t : Int) ∧ (t : Int) ≤ 100000 := by omega
    have hD3 := w3.lst mD hD2
    have hF3 := w3.lst mF hF
    walk_at "rx"
    rw [show ((t : Int)).toNat = t by omega]
    refine fr_rng0 (fun i σ H' => ∃ (fr : List Nat) (ls : List Int) (y4 y5 y6 y7 y8 y9 : Option V), σ = [some (.ref B.b), some (.ref a), some (.ref D), some (.ref F), y4, y5, y6, y7, y8, y9] ∧ Wg B H H' ∧ H' F = some (.lst (nvs fr)) ∧ H' D = some (.lst (ls.map V.int)) ∧ fr.Nodup ∧ (∀ f ∈ fr, f < es.length) ∧ ls.Perm es)
      ⟨ps, es, none, none, none, none, none, none, rfl, w2.trans w3, hF3, hD3, nd0, lt0, List.Perm.refl _⟩ ?_ ?_
    · rintro i σ Ha hi ⟨fr, ls, y4, y5, y6, y7, y8, y9, rfl, wa, hFa, hDa, nd, lt, pm⟩
      have ll := pm.length_eq
      have lfr := nd_len es.length fr nd lt
      have mono : ∀ f, ∀ f2 ∈ fr.eraseIdx f, f2 < es.length := fun f f2 h => lt f2 (erase_mem h)
      walk_at "rx"
      by_cases z : 1 < fr.length
      · rw [decide_eq_true (show (1 : Int) < (((nvs fr).length : Nat) : Int) by rw [nvs_len]; omega)]
        walk_at "rx"
        refine ⟨B, ((nvs fr).length : Nat), rfl, hB, wa.i1, by rw [nvs_len]; omega, by rw [nvs_len]; omega, fun Hb d1 wb hd1 => ?_⟩
        rw [nvs_len] at hd1
        have l1 : d1 < fr.length := by omega
        have e1 : fr[d1]? = some fr[d1] := List.getElem?_eq_getElem l1
        have hFb := wb.lst mF hFa
        have hDb := wb.lst mD hDa
        walk_at "rx"
        refine rd_popQ hFb (nvs_get e1) (by omega) ?_
        have hDc : (upd Hb F (.lst ((nvs fr).eraseIdx d1))) D = some (.lst (ls.map V.int)) := by rw [upd_ne nFD.symm]; exact hDb
        have hFc : (upd Hb F (.lst ((nvs fr).eraseIdx d1))) F = some (.lst (nvs (fr.eraseIdx d1))) := by rw [upd_same, nvs_eraseIdx]
        have wc : Wg B H (upd Hb F (.lst ((nvs fr).eraseIdx d1))) := (wa.trans wb).mut nF0
        generalize upd Hb F (.lst ((nvs fr).eraseIdx d1)) = Hc at *
        have i1 := lt _ (List.getElem_mem l1)
        have ne1 := erase_ne nd e1
        have nd1 := erase_nd nd d1
        have lt1 := mono d1
        have lf1 : (fr.eraseIdx d1).length = fr.length - 1 := List.length_eraseIdx_of_lt l1
        generalize fr[d1] = one at *
        generalize fr.eraseIdx d1 = fr1 at *
        walk_at "rx"
        refine ⟨B, ((nvs fr1).length : Nat), rfl, hB, wc.i1, by rw [nvs_len]; omega, by rw [nvs_len]; omega, fun Hd d2 wd hd2 => ?_⟩
        rw [nvs_len] at hd2
        have l2 : d2 < fr1.length := by omega
        have e2 : fr1[d2]? = some fr1[d2] := List.getElem?_eq_getElem l2
        have hFd := wd.lst mF hFc
        have hDd := wd.lst mD hDc
        walk_at "rx"
        refine rd_popQ hFd (nvs_get e2) (by omega) ?_
        have hDe : (upd Hd F (.lst ((nvs fr1).eraseIdx d2))) D = some (.lst (ls.map V.int)) := by rw [upd_ne nFD.symm]; exact hDd
        have hFe : (upd Hd F (.lst ((nvs fr1).eraseIdx d2))) F = some (.lst (nvs (fr1.eraseIdx d2))) := by rw [upd_same, nvs_eraseIdx]
        have we : Wg B H (upd Hd F (.lst ((nvs fr1).eraseIdx d2))) := (wc.trans wd).mut nF0
        generalize upd Hd F (.lst ((nvs fr1).eraseIdx d2)) = He at *
        have m2 := List.getElem_mem l2
        have i2 := lt1 _ m2
        have n12 : one ≠ fr1[d2] := fun e => ne1 (by rw [e]; exact m2)
        have ne2 := erase_ne nd1 e2
        have nd2 := erase_nd nd1 d2
        have lt2 : ∀ f ∈ fr1.eraseIdx d2, f < es.length ∧ f ≠ one := fun f h => ⟨lt1 f (erase_mem h), fun e => ne1 (by rw [← e]; exact erase_mem h)⟩
        have lf2 : (fr1.eraseIdx d2).length = fr1.length - 1 := List.length_eraseIdx_of_lt l2
        generalize fr1[d2] = two at *
        generalize fr1.eraseIdx d2 = fr2 at *
        have a1 : atI (ls.map V.int) (one : Int) = some (.int (ls.getD one 0)) := atI_ints (by omega) (by omega)
        have a2 : atI (ls.map V.int) (two : Int) = some (.int (ls.getD two 0)) := atI_ints (by omega) (by omega)
        have x1 : ixN (ls.map V.int).length ((one : Nat) : Int) = some one := ixN_of rfl (by rw [List.length_map]; omega)
        walk_at "rx"
        have hDf : (upd He D (.lst ((ls.map V.int).set one (.int (ls.getD two 0))))) D = some (.lst ((ls.set one (ls.getD two 0)).map V.int)) := by rw [upd_same, List.map_set]
        have hFf : (upd He D (.lst ((ls.map V.int).set one (.int (ls.getD two 0))))) F = some (.lst (nvs fr2)) := by rw [upd_ne nFD]; exact hFe
        have wf : Wg B H (upd He D (.lst ((ls.map V.int).set one (.int (ls.getD two 0))))) := we.mut nD
        generalize upd He D (.lst ((ls.map V.int).set one (.int (ls.getD two 0)))) = Hf at *
        have x2 : ixN ((ls.set one (ls.getD two 0)).map V.int).length ((two : Nat) : Int) = some two := ixN_of rfl (by rw [List.length_map, List.length_set]; omega)
        refine ⟨fun σ' H' => ∃ (fr3 : List Nat) (ls3 : List Int) (tw : Nat) (y8 : Option V), σ' = [some (.ref B.b), some (.ref a), some (.ref D), some (.ref F), some (.int (i : Int)), some (.int (one : Int)), some (.int (tw : Int)), some (.int (ls.getD one 0)), y8, y9] ∧ Wg B H H' ∧ H' F = some (.lst (nvs fr3)) ∧ H' D = some (.lst (ls3.map V.int)) ∧ fr3.Nodup ∧ (∀ f ∈ fr3, f < es.length) ∧ tw < ls3.length ∧ (ls3.set tw (ls.getD one 0)).Perm es, ?_, ?_⟩
        · have two_done : (ls.set one (ls.getD two 0)).length = ls.length := List.length_set ..
          have pm2 := (set_set_perm (l := ls) (i := one) (j := two) (by omega) (by omega)).trans pm
          walk_at "rx"
          refine rd_newQ (by simp) fun Hg O Sg nO hO => ?_
          have hFg := Sg _ _ hFf
          have hDg := Sg _ _ hDf
          have wg := wf.same Sg
          have hFg2 : Hg F = some (.lst ((niz fr2).map V.int)) := hFg
          refine rd_neN hFg2 hO ?_
          cases fr2 with
          | nil =>
            walk_at "rx"
            show if false = true then _ else _
            walk_at "rx"
            exact ⟨[], _, two, _, rfl, wg, hFg, hDg, List.nodup_nil, fun f hf => (by cases hf), by omega, pm2⟩
          | cons g0 gr =>
            walk_at "rx"
            show if true = true then _ else _
            walk_at "rx"
            refine ⟨B, 4, rfl, hB, wg.i1, by decide, by decide, fun Hh d3 wh hd3 => ?_⟩
            have hFh := wh.lst mF hFg
            have hDh := wh.lst mD hDg
            walk_at "rx"
            refine ite2 (fun z3 => ?_) (fun z3 => ?_)
            · walk_at "rx"
              refine ⟨B, ((nvs (g0 :: gr)).length : Nat), rfl, hB, wh.i1, by rw [nvs_len, List.length_cons]; omega, by rw [nvs_len]; omega, fun Hi d4 wi hd4 => ?_⟩
              rw [nvs_len] at hd4
              have l4 : d4 < (g0 :: gr).length := by omega
              have e4 : (g0 :: gr)[d4]? = some (g0 :: gr)[d4] := List.getElem?_eq_getElem l4
              have hFi := wi.lst mF hFh
              have hDi := wi.lst mD hDh
              walk_at "rx"
              refine rd_popQ hFi (nvs_get e4) (by omega) ?_
              have hDj : (upd Hi F (.lst ((nvs (g0 :: gr)).eraseIdx d4))) D = some (.lst ((ls.set one (ls.getD two 0)).map V.int)) := by rw [upd_ne nFD.symm]; exact hDi
              have hFj : (upd Hi F (.lst ((nvs (g0 :: gr)).eraseIdx d4))) F = some (.lst (nvs ((g0 :: gr).eraseIdx d4))) := by rw [upd_same, nvs_eraseIdx]
              have wj : Wg B H (upd Hi F (.lst ((nvs (g0 :: gr)).eraseIdx d4))) := ((wg.trans wh).trans wi).mut nF0
              generalize upd Hi F (.lst ((nvs (g0 :: gr)).eraseIdx d4)) = Hj at *
              have m4 := List.getElem_mem l4
              have i4 := lt2 _ m4
              have n4 : two ≠ (g0 :: gr)[d4] := fun e => ne2 (by rw [e]; exact m4)
              have nd4 := erase_nd nd2 d4
              have lt4 : ∀ f ∈ (g0 :: gr).eraseIdx d4, f < es.length := fun f h => (lt2 f (erase_mem h)).1
              generalize (g0 :: gr)[d4] = thr at *
              generalize (g0 :: gr).eraseIdx d4 = fr4 at *
              have pm4 := (set3_perm (l := ls) (i := one) (j := two) (k := thr) (by omega) (by omega) (by omega) n12 i4.2.symm n4).trans pm
              have a4 : atI ((ls.set one (ls.getD two 0)).map V.int) (thr : Int) = some (.int (ls.getD thr 0)) := by
                rw [atI_ints (by omega) (by rw [List.length_set]; omega), Int.toNat_natCast, List.getD_eq_getElem?_getD, List.getElem?_set_ne i4.2.symm, ← List.getD_eq_getElem?_getD]
              walk_at "rx"
              exact ⟨fr4, _, thr, _, rfl, wj.mut nD, by rw [upd_ne nFD]; exact hFj, by rw [upd_same, ← List.map_set], nd4, lt4, by rw [List.length_set, List.length_set]; omega, pm4⟩
            · walk_at "rx"
              exact ⟨g0 :: gr, _, two, _, rfl, wg.trans wh, hFh, hDh, nd2, fun f hf => (lt2 f hf).1, by omega, pm2⟩
        · rintro σ' Hg ⟨fr3, ls3, tw, y8', rfl, wg, hFg, hDg, nd3, lt3, ltw, pm3⟩
          have x3 : ixN (ls3.map V.int).length ((tw : Nat) : Int) = some tw := ixN_of rfl (by rw [List.length_map]; omega)
          walk_at "rx"
          exact ⟨fr3, ls3.set tw (ls.getD one 0), _, _, _, _, _, _, rfl, wg.mut nD, by rw [upd_ne nFD]; exact hFg, by rw [upd_same, List.map_set], nd3, lt3, pm3⟩
      · rw [decide_eq_false (show ¬ (1 : Int) < (((nvs fr).length : Nat) : Int) by rw [nvs_len]; omega)]
        walk_at "rx"
        exact ⟨fr, ls, _, _, _, _, _, _, rfl, wa, hFa, hDa, nd, lt, pm⟩
    · rintro σ Ha ⟨fr, ls, y4, y5, y6, y7, y8, y9, rfl, wa, hFa, hDa, nd, lt, pm⟩
      walk_at "rx"
      exact q Ha D ls wa nD hDa pm
def sp_law_sign (_K : PySem.W.Frag) : Sp := fun vs H Q _ => ∃ (e : Int), vs = [.int e] ∧ -1 ≤ e ∧ e ≤ 999 ∧ Q (.str (sgS e)) H
set_option maxHeartbeats 4000000 in
theorem ok_law_sign (T : Top K mg) {f : Addr} {fd : FuncData} (D : Def K mg "_law_sign" s_law_sign ["entry"] f fd) : FnOk P w K mg base CX0 1 f fd ["entry"] (sp_law_sign K) := by
  refine D.F.ok sc_law_sign (fun vs H Q E h => ?_) (fun cdv A outer s H vs Q E hr h => ?_)
  · obtain ⟨e, rfl, _⟩ := h
    rfl
  · obtain ⟨e, rfl, e0, e1, q⟩ := h
    unfold sgS at q
    refine ⟨_, (pss_cons (ps_if (pt_cmpR op_eq (pv 0) (pe_un un_neg pe_int) (nomark _)) (pss_one (ps_ret pe_str)) pss_nil)
    (pss_one (ps_ret (pe_callTy call_strQ (by rfl) T.b_str (by decide +kernel) (pa_cons (pe_op op_fdivN (pv 0) pe_int) pa_nil))))), ?_⟩
    walk_at "rx"
    refine ite2 (fun z => ?_) (fun z => ?_)
    · walk_at "rx"
      rw [if_pos (V.int.inj (of_decide_eq_true z))] at q
      exact q
    · walk_at "rx"
      have ne : e ≠ -1 := fun k => z (by rw [k]; rfl)
      obtain ⟨k0, k1⟩ := kind_small (e := e) (by omega) e1
      refine rd_strQ k0 k1 ?_
      rw [if_neg ne] at q
      exact q
def sp_law_partners (_K : PySem.W.Frag) : Sp := fun vs H Q _ => ∃ (L : Addr) (ls : List Int) (one way : Nat), vs = [.ref L, .int (one : Int), .int (way : Int)] ∧ H L = some (.lst (ls.map V.int)) ∧ ls.length ≤ 12 ∧ (∀ x ∈ ls, -1 ≤ x ∧ x ≤ 999) ∧ one < ls.length ∧ ∀ H' D, Same H H' → H D = none → H' D = some (.lst (nvs (partL ls one way))) → Q (.ref D) H'
set_option maxHeartbeats 4000000 in
theorem ok_law_partners (T : Top K mg) {f : Addr} {fd : FuncData} (D : Def K mg "_law_partners" s_law_partners ["laid", "one", "way"] f fd) : FnOk P w K mg base CX0 2 f fd ["laid", "one", "way"] (sp_law_partners K) := by
  obtain ⟨f_law_sign, fd_law_sign, D_law_sign⟩ := T.d__law_sign
  have G_law_sign : FnOk P w K mg base CX0 1 f_law_sign fd_law_sign ["entry"] (sp_law_sign K) := ok_law_sign T D_law_sign
  refine D.F.ok sc_law_partners (fun vs H Q E h => ?_) (fun cdv A outer s H vs Q E hr h => ?_)
  · obtain ⟨L, ls, one, way, rfl, _⟩ := h
    rfl
  · obtain ⟨L, ls, one, way, rfl, hL, l12, rg, h1, q⟩ := h
    have hr1 : -100000 ≤ (((ls.map V.int).length : Nat) : Int) ∧ (((ls.map V.int).length : Nat) : Int) ≤ 100000 := by rw [List.length_map]; omega
    have a1 : atI (ls.map V.int) (one : Int) = some (.int (ls.getD one 0)) := atI_ints (by omega) (by omega)
    have r1 := rg _ (mem_at h1)
    have lo := oth_len ls one ls.length
    refine ⟨_, (pss_cons (ps_setLc (i := 3) (own := [("at", 4)]) (g := gName 4) (tt := _) rfl sc_law_partners.nd rfl rfl (sw_true rfl rfl rfl (by decide +kernel)) (pi_range1 (by rfl) T.b_range (pa_cons (pe_callB (r := rLenQ K) call_lenQ (by rfl) T.b_len PySem.boot_len (pa_cons (pv 0) pa_nil)) pa_nil))
      (blkOk_by (own := [("at", 4)]) (N := ["laid", "one", "way", "others", "at"]) (sc := defScope s_law_partners) (by decide +kernel)) (fun _ _ _ _ _ => (pg_name (i := 4) sc_law_partners.nd rfl (.inl rfl))) (fun _ _ _ _ _ => pts_one (pt_cmpR op_ne (pe_ix (r := rIxL K) ix_list (pv 0) (pv 4) (fun _ _ => rfl)) (pe_ix (r := rIxL K) ix_list (pv 0) (pv 1) (fun _ _ => rfl)) (nomark _)))
      (fun _ _ _ _ _ => (pv 4)))
    (pss_cons (ps_if (pt_cmpR op_eq (pv 2) pe_int (nomark _)) (pss_one (ps_ret (pv 3))) pss_nil)
    (pss_cons (ps_if (pt_cmpR op_eq (pv 2) pe_int (nomark _)) (pss_one (ps_ret (pe_lc (own := [("at", 4)]) (g := gName 4) (tt := _) rfl sc_law_partners.nd (pi_list (pv 3))
      (blkOk_by (own := [("at", 4)]) (N := ["laid", "one", "way", "others", "at"]) (sc := defScope s_law_partners) (by decide +kernel)) (fun _ _ _ _ _ => (pg_name (i := 4) sc_law_partners.nd rfl (.inl rfl))) (fun _ _ _ _ _ => pts_one (PW.pt (pw_and (pt_cmpR op_ne (pe_ix (r := rIxL K) ix_list (pv 0) (pv 4) (fun _ _ => rfl)) (pe_un un_neg pe_int) (nomark _)) (pw_and1 (pt_cmpR op_ne (pe_ix (r := rIxL K) ix_list (pv 0) (pv 1) (fun _ _ => rfl)) (pe_un un_neg pe_int) (nomark _))))))
      (fun _ _ _ _ _ => (pv 4))))) pss_nil)
    (pss_one (ps_ret (pe_lc (own := [("at", 4)]) (g := gName 4) (tt := _) rfl sc_law_partners.nd (pi_list (pv 3))
      (blkOk_by (own := [("at", 4)]) (N := ["laid", "one", "way", "others", "at"]) (sc := defScope s_law_partners) (by decide +kernel)) (fun _ _ _ _ _ => (pg_name (i := 4) sc_law_partners.nd rfl (.inl rfl))) (fun _ _ _ _ _ => pts_one (pt_cmpR op_eq (pe_call G_law_sign hr (by rfl) D_law_sign.g D_law_sign.F.kp D_law_sign.b .nil pass0 (pa_cons (pe_ix (r := rIxL K) ix_list (pv 0) (pv 4) (fun _ _ => rfl)) pa_nil)) (pe_call G_law_sign hr (by rfl) D_law_sign.g D_law_sign.F.kp D_law_sign.b .nil pass0 (pa_cons (pe_ix (r := rIxL K) ix_list (pv 0) (pv 1) (fun _ _ => rfl)) pa_nil)) (nomark _)))
      (fun _ _ _ _ _ => (pv 4)))))))), ?_⟩
    walk_at "rx"
    rw [show ((((ls.map V.int).length : Nat) : Int)).toNat = ls.length by rw [List.length_map]; omega]
    refine lc_acc walk_rng (fun i acc => acc = nvs (othL ls one i)) rfl (fun i acc hi e => by have := oth_len ls one i; rw [e, nvs_len]; omega) (fun _ _ => trivial) ?_ ?_
    · rintro i x Hx Hy acc Qc R hi Sx e ⟨rfl, rfl⟩ qc rc
      have hLx := Sx _ _ hL
      have ai : atI (ls.map V.int) (i : Int) = some (.int (ls.getD i 0)) := atI_ints (by omega) (by omega)
      have nx : othL ls one (i + 1) = othL ls one i ++ if (!decide (V.int (ls.getD i 0) = V.int (ls.getD one 0))) = true then [i] else [] := fr_next (p := fun j => !decide (V.int (ls.getD j 0) = V.int (ls.getD one 0))) i
      walk_at "rx"
      refine ⟨rfl, ?_⟩
      walk_at "rx"
      refine ite2 (fun z => ?_) (fun z => ?_)
      · walk_at "rx"
        refine qc _ _ (Same.refl _) ?_
        rw [nx, if_pos z, nvs_app, e]
        rfl
      · refine rc _ (Same.refl _) ?_
        rw [nx, if_neg z, List.append_nil]
        exact e
    intro H1 O acc S1 nO hO e
    subst e
    have hL1 := S1 _ _ hL
    walk_at "rx"
    unfold partL at q
    refine ite2 (fun z => ?_) (fun z => ?_)
    · walk_at "rx"
      rw [if_pos (by have := V.int.inj (of_decide_eq_true z); omega)] at q
      exact q H1 O S1 nO hO
    rw [if_neg (fun k : way = 1 => z (by rw [k]; rfl))] at q
    walk_at "rx"
    refine ite2 (fun z2 => ?_) (fun z2 => ?_)
    · rw [if_pos (by have := V.int.inj (of_decide_eq_true z2); omega)] at q
      walk_at "rx"
      refine lc_acc (walk_list (xs := nvs (othL ls one ls.length))) (fun i acc => acc = nvs (((othL ls one ls.length).take i).filter (p2L ls one))) rfl (fun i acc hi e => by
        have := List.length_filter_le (p2L ls one) ((othL ls one ls.length).take i)
        rw [List.length_take] at this
        rw [e, nvs_len]
        omega) (fun H' S => SqL.of (S _ _ hO)) ?_ ?_
      · rintro i x Hx Hy acc Qc R hi Sx e ⟨rfl, ex⟩ qc rc
        rw [nvs_len] at hi
        rw [nvs_get (List.getElem?_eq_getElem hi)] at ex
        cases ex
        have hLx := Sx _ _ hL1
        have pl := oth_lt (List.getElem_mem hi)
        have ai : atI (ls.map V.int) (((othL ls one ls.length)[i] : Nat) : Int) = some (.int (ls.getD (othL ls one ls.length)[i] 0)) := atI_ints (by omega) (by omega)
        have nx := fl_next (p := p2L ls one) hi
        walk_at "rx"
        refine ⟨rfl, ?_⟩
        walk_at "rx"
        refine ite2 (fun y => ?_) (fun y => ?_)
        · walk_at "rx"
          refine ite2 (fun y2 => ?_) (fun y2 => ?_)
          · walk_at "rx"
            refine qc _ _ (Same.refl _) ?_
            rw [nx, if_pos (by unfold p2L; rw [y, y2]; rfl), nvs_app, e]
            rfl
          · refine rc _ (Same.refl _) ?_
            rw [nx, if_neg (by unfold p2L; rw [y, Bool.true_and]; exact y2), List.append_nil]
            exact e
        · refine rc _ (Same.refl _) ?_
          rw [nx, if_neg (by unfold p2L; rw [Bool.and_eq_true]; exact fun k => y k.1), List.append_nil]
          exact e
      · intro H2 D acc S2 nD hD e
        rw [e, nvs_len, List.take_length] at hD
        walk_at "rx"
        exact q H2 D (S1.trans S2) (S1.free nD) hD
    · rw [if_neg (fun k : way = 2 => z2 (by rw [k]; rfl))] at q
      walk_at "rx"
      refine lc_acc (walk_list (xs := nvs (othL ls one ls.length))) (fun i acc => acc = nvs (((othL ls one ls.length).take i).filter (p3L ls one))) rfl (fun i acc hi e => by
        have := List.length_filter_le (p3L ls one) ((othL ls one ls.length).take i)
        rw [List.length_take] at this
        rw [e, nvs_len]
        omega) (fun H' S => SqL.of (S _ _ hO)) ?_ ?_
      · rintro i x Hx Hy acc Qc R hi Sx e ⟨rfl, ex⟩ qc rc
        rw [nvs_len] at hi
        rw [nvs_get (List.getElem?_eq_getElem hi)] at ex
        cases ex
        have hLx := Sx _ _ hL1
        have pl := oth_lt (List.getElem_mem hi)
        have ai : atI (ls.map V.int) (((othL ls one ls.length)[i] : Nat) : Int) = some (.int (ls.getD (othL ls one ls.length)[i] 0)) := atI_ints (by omega) (by omega)
        have ri := rg _ (mem_at pl)
        have nx := fl_next (p := p3L ls one) hi
        walk_at "rx"
        refine ⟨rfl, ?_⟩
        walk_at "rx"
        refine ⟨_, rfl, ri.1, ri.2, ?_⟩
        walk_at "rx"
        refine ⟨_, rfl, r1.1, r1.2, ?_⟩
        walk_at "rx"
        refine ite2 (fun y => ?_) (fun y => ?_)
        · walk_at "rx"
          refine qc _ _ (Same.refl _) ?_
          rw [nx, if_pos (show p3L ls one _ = true from y), nvs_app, e]
          rfl
        · refine rc _ (Same.refl _) ?_
          rw [nx, if_neg (show ¬ p3L ls one _ = true from y), List.append_nil]
          exact e
      · intro H2 D acc S2 nD hD e
        rw [e, nvs_len, List.take_length] at hD
        walk_at "rx"
        exact q H2 D (S1.trans S2) (S1.free nD) hD
def sp_law_after (_K : PySem.W.Frag) : Sp := fun vs H Q _ => ∃ (B : Box) (a : Addr) (es : List Int), vs = [.ref B.b, .ref a] ∧ IsBk B ∧ B.I H ∧ TG H a es ∧ Img es ∧ (full es).Nodup ∧ ∀ H' b fs, Wg B H H' → GT H' b fs → Ren es fs → Q (.ref b) H'
set_option maxHeartbeats 4000000 in
theorem ok_law_after (T : Top K mg) {f : Addr} {fd : FuncData} (D : Def K mg "_law_after" s_law_after ["box", "before"] f fd) : FnOk P w K mg base CX0 3 f fd ["box", "before"] (sp_law_after K) := by
  obtain ⟨f_law_take, fd_law_take, D_law_take⟩ := T.d__law_take
  have G_law_take : FnOk P w K mg base CX0 1 f_law_take fd_law_take ["box", "limit"] (sp_law_take K) := ok_law_take T D_law_take
  obtain ⟨f_law_laid, fd_law_laid, D_law_laid⟩ := T.d__law_laid
  have G_law_laid : FnOk P w K mg base CX0 2 f_law_laid fd_law_laid ["box", "blocks", "values"] (sp_law_laid K) := ok_law_laid T D_law_laid
  obtain ⟨f_law_turned, fd_law_turned, D_law_turned⟩ := T.d__law_turned
  have G_law_turned : FnOk P w K mg base CX0 2 f_law_turned fd_law_turned ["box", "before"] (sp_law_turned K) := ok_law_turned T D_law_turned
  obtain ⟨f_law_partners, fd_law_partners, D_law_partners⟩ := T.d__law_partners
  have G_law_partners : FnOk P w K mg base CX0 2 f_law_partners fd_law_partners ["laid", "one", "way"] (sp_law_partners K) := ok_law_partners T D_law_partners
  refine D.F.ok sc_law_after (fun vs H Q E h => ?_) (fun cdv A outer s H vs Q E hr h => ?_)
  · obtain ⟨B, a, es, rfl, _⟩ := h
    rfl
  · obtain ⟨B, a, es, rfl, hB, i0, ha, I, nd, q⟩ := h
    have e12 := I.2.1
    have lfu : (full es).length ≤ es.length := List.length_filter_le _ _
    refine ⟨_, (pss_cons (ps_set (i := 2) sc_law_after.nd rfl (.inr rfl) (pe_call G_law_take (hr.mono (by decide)) (by rfl) D_law_take.g D_law_take.F.kp D_law_take.b .nil pass0 (pa_cons (pv 0) (pa_cons pe_int pa_nil))))
    (pss_cons (ps_if (pt_cmpR op_gt (pv 2) pe_int (nomark _)) (pss_one (ps_ret (pe_call G_law_laid hr (by rfl) D_law_laid.g D_law_laid.F.kp D_law_laid.b .nil pass0 (pa_cons (pv 0) (pa_cons (pe_callB (r := rLenQ K) call_lenQ (by rfl) T.b_len PySem.boot_len (pa_cons (pv 1) pa_nil)) (pa_cons (pe_lc (own := [("value", 12)]) (g := gName 12) (tt := _) rfl sc_law_after.nd (pi_tup (pv 1))
      (blkOk_by (own := [("value", 12)]) (N := ["box", "before", "way", "laid", "many", "turn", "ones", "one", "fit", "two", "kept", "at", "value"]) (sc := defScope s_law_after) (by decide +kernel)) (fun _ _ _ _ _ => (pg_name (i := 12) sc_law_after.nd rfl (.inl rfl))) (fun _ _ _ _ _ => pts_one (pt_cmpR op_ne (pv 12) (pe_un un_neg pe_int) (nomark _)))
      (fun _ _ _ _ _ => (pv 12))) pa_nil)))))) pss_nil)
    (pss_cons (ps_set (i := 3) sc_law_after.nd rfl (.inr rfl) (pe_callTy (r := rLstQ K) call_lstQ (by rfl) T.b_list (by decide +kernel) (pa_cons (pv 1) pa_nil)))
    (pss_cons (ps_set (i := 4) sc_law_after.nd rfl (.inl rfl) (pe_call G_law_take (hr.mono (by decide)) (by rfl) D_law_take.g D_law_take.F.kp D_law_take.b .nil pass0 (pa_cons (pv 0) (pa_cons pe_int pa_nil))))
    (C8.pss_cut (ps_if (pt_cmpR op_gt (pv 2) pe_int (nomark _)) (pss_cons (ps_set (i := 3) sc_law_after.nd rfl (.inr rfl) (pe_call G_law_turned hr (by rfl) D_law_turned.g D_law_turned.F.kp D_law_turned.b .nil pass0 (pa_cons (pv 0) (pa_cons (pv 1) pa_nil))))
    (pss_one (ps_set (i := 4) sc_law_after.nd rfl (.inl rfl) pe_int))) pss_nil)
    (C8.pss_cut (ps_if (PW.pt (pw_or (pt_cmpR op_eq (pv 2) pe_int (nomark _)) (pw_or1 (pt_cmpR op_eq (pv 2) pe_int (nomark _))))) (pss_cons (ps_set (i := 2) sc_law_after.nd rfl (.inr rfl) pe_int)
    (pss_one (ps_set (i := 4) sc_law_after.nd rfl (.inl rfl) pe_int))) pss_nil)
    (pss_cons (ps_for PassesOwn.never rfl (pi_range1 (by rfl) T.b_range (pa_cons (pv 4) pa_nil)) (pg_name (i := 5) sc_law_after.nd rfl (.inl rfl)) (pss_cons (ps_setLc (i := 6) (own := [("at", 11)]) (g := gName 11) (tt := _) rfl sc_law_after.nd rfl rfl (sw_true rfl rfl rfl (by decide +kernel)) (pi_range1 (by rfl) T.b_range (pa_cons (pe_callB (r := rLenQ K) call_lenQ (by rfl) T.b_len PySem.boot_len (pa_cons (pv 3) pa_nil)) pa_nil))
      (blkOk_by (own := [("at", 11)]) (N := ["box", "before", "way", "laid", "many", "turn", "ones", "one", "fit", "two", "kept", "at", "value"]) (sc := defScope s_law_after) (by decide +kernel)) (fun _ _ _ _ _ => (pg_name (i := 11) sc_law_after.nd rfl (.inl rfl))) (fun _ _ _ _ _ => pts_one (pt_cmpR (r := rNeD K) (op_neD hr.units) (pe_call G_law_partners hr (by rfl) D_law_partners.g D_law_partners.F.kp D_law_partners.b .nil pass0 (pa_cons (pv 3) (pa_cons (pv 11) (pa_cons (pv 2) pa_nil)))) (pe_lst pa_nil) (nomark _)))
      (fun _ _ _ _ _ => (pv 11)))
    (pss_one (ps_if (pt_cmpR (op_neD hr.units) (pv 6) (pe_lst pa_nil) (nomark _)) (pss_cons (ps_set (i := 7) sc_law_after.nd rfl (.inl rfl) (pe_ix (r := rIxL K) ix_list (pv 6) (pe_call G_law_take (hr.mono (by decide)) (by rfl) D_law_take.g D_law_take.F.kp D_law_take.b .nil pass0 (pa_cons (pv 0) (pa_cons (pe_callB (r := rLenQ K) call_lenQ (by rfl) T.b_len PySem.boot_len (pa_cons (pv 6) pa_nil)) pa_nil))) (fun _ _ => rfl)))
    (pss_cons (ps_set (i := 8) sc_law_after.nd rfl (.inl rfl) (pe_call G_law_partners hr (by rfl) D_law_partners.g D_law_partners.F.kp D_law_partners.b .nil pass0 (pa_cons (pv 3) (pa_cons (pv 7) (pa_cons (pv 2) pa_nil)))))
    (pss_cons (ps_set (i := 9) sc_law_after.nd rfl (.inl rfl) (pe_ix (r := rIxL K) ix_list (pv 8) (pe_call G_law_take (hr.mono (by decide)) (by rfl) D_law_take.g D_law_take.F.kp D_law_take.b .nil pass0 (pa_cons (pv 0) (pa_cons (pe_callB (r := rLenQ K) call_lenQ (by rfl) T.b_len PySem.boot_len (pa_cons (pv 8) pa_nil)) pa_nil))) (fun _ _ => rfl)))
    (pss_cons (ps_set (i := 10) sc_law_after.nd rfl (.inl rfl) (pe_ix (r := rIxL K) ix_list (pv 3) (pv 7) (fun _ _ => rfl)))
    (pss_cons (ps_asg (pe_ix (r := rIxL K) ix_list (pv 3) (pv 9) (fun _ _ => rfl)) (pg_sub (pv 3) (pv 7) set_list))
    (pss_one (ps_asg (pv 10) (pg_sub (pv 3) (pv 9) set_list)))))))) pss_nil))))
    (pss_one (ps_ret (pe_callTy (r := rTupF K) call_tupF (by rfl) T.b_tuple (by decide +kernel) (pa_cons (pv 3) pa_nil))))))))))), ?_⟩
    walk_at "rx"
    refine ⟨B, 8, rfl, hB, i0, by decide, by decide, fun H1 way w1 hw => ?_⟩
    have ha1 := ha.wg w1
    walk_at "rx"
    refine ite2 (fun z => ?_) (fun z => ?_)
    · walk_at "rx"
      refine lc_acc (walk_tup (xs := es.map V.int)) (fun i acc => acc = (full (es.take i)).map V.int) rfl (fun i acc hi e => by
        rw [e, List.length_map]
        have := List.length_filter_le (fun x => !decide (x = -1)) (es.take i)
        unfold full
        rw [List.length_take] at this
        omega) (fun H' S => (ha1.same S).sq) ?_ ?_
      · rintro i x Hx Hy acc Qc R hi Sx e ⟨rfl, ex⟩ qc rc
        have hi2 : i < es.length := by rw [List.length_map] at hi; exact hi
        rw [List.getElem?_map, List.getElem?_eq_getElem hi2] at ex
        cases ex
        have nx : full (es.take (i + 1)) = full (es.take i) ++ (if es[i] = -1 then [] else [es[i]]) := by
          unfold full
          rw [take_next hi2, List.filter_append]
          congr 1
          by_cases z : es[i] = -1
          · rw [if_pos z, List.filter_cons_of_neg (by simpa using z)]; rfl
          · rw [if_neg z, List.filter_cons_of_pos (by simpa using z)]; rfl
        walk_at "rx"
        refine ⟨rfl, ?_⟩
        walk_at "rx"
        by_cases z : es[i] = -1
        · rw [decide_eq_true (show V.int es[i] = V.int (-1) from by rw [z])]
          walk_at "rx"
          refine rc _ (Same.refl _) ?_
          rw [nx, if_pos z, List.append_nil]
          exact e
        · rw [decide_eq_false (show ¬ V.int es[i] = V.int (-1) from fun w => z (V.int.inj w))]
          walk_at "rx"
          refine qc _ _ (Same.refl _) ?_
          rw [nx, if_neg z, List.map_append, e]
          rfl
      · intro H2 D acc S2 nD hD e
        rw [e, List.length_map, List.take_length] at hD
        walk_at "rx"
        refine ⟨B, es.length, D, full es, rfl, hB, (w1.same S2).i1, B.nem w1.i1 nD, hD, lfu, I.1, e12, fun H3 b fs w3 gb pm => ?_⟩
        exact q H3 b fs ((w1.same S2).trans w3) gb ⟨(pm.trans (full_back es)).symm, nd⟩
    walk_at "rx"
    refine rd_newL fun H2 D S2 nD hD => ?_
    have w2 := w1.same S2
    have mD : D ∉ B.m := B.nem w1.i1 nD
    have nD0 := w1.free nD
    have ha2 := ha1.same S2
    walk_at "rx"
    refine ⟨B, 7, rfl, hB, w2.i1, by decide, by decide, fun H3 many w3 hm => ?_⟩
    have hD3 := w3.lst mD hD
    have ha3 := ha2.wg w3
    walk_at "rx"
    refine ⟨fun σ H' => ∃ (wy mn : Nat) (L : Addr) (ls : List Int), σ = [some (.ref B.b), some (.ref a), some (.int (wy : Int)), some (.ref L), some (.int (mn : Int)), none, none, none, none, none, none, none, none] ∧ mn ≤ 7 ∧ Wg B H H' ∧ H L = none ∧ H' L = some (.lst (ls.map V.int)) ∧ ls.Perm es, ?_, ?_⟩
    · walk_at "rx"
      refine ite2 (fun z => ?_) (fun z => ?_)
      · walk_at "rx"
        refine ⟨B, a, es, rfl, hB, w3.i1, ha3, I, fun H4 L fs w4 nL hL pm => ?_⟩
        walk_at "rx"
        exact ⟨way, 0, L, fs, rfl, by decide, (w2.trans w3).trans w4, (w2.trans w3).free nL, hL, pm⟩
      · walk_at "rx"
        exact ⟨way, many, D, es, rfl, by omega, w2.trans w3, nD0, hD3, List.Perm.refl _⟩
    rintro σ H4 ⟨wy, mn, L, ls, rfl, mn7, w4, nL, hL, pm⟩
    walk_at "rx"
    refine ⟨fun σ H' => ∃ (wy mn : Nat), σ = [some (.ref B.b), some (.ref a), some (.int (wy : Int)), some (.ref L), some (.int (mn : Int)), none, none, none, none, none, none, none, none] ∧ mn ≤ 7 ∧ H' = H4, ?_, ?_⟩
    · walk_at "rx"
      refine ite2 (fun z => ?_) (fun z => ?_)
      · walk_at "rx"
        exact ⟨1, 1, rfl, by decide, rfl⟩
      · walk_at "rx"
        refine ite2 (fun z => ?_) (fun z => ?_)
        · walk_at "rx"
          exact ⟨1, 1, rfl, by decide, rfl⟩
        · walk_at "rx"
          exact ⟨wy, mn, rfl, mn7, rfl⟩
    rintro σ H5 ⟨wy, mn, rfl, mn7, rfl⟩
    have hr2 : -100000 ≤ (mn : Int) ∧ (mn : Int) ≤ 100000 := by omega
    have mL : L ∉ B.m := B.nem i0 nL
    walk_at "rx"
    rw [show ((mn : Int)).toNat = mn by omega]
    refine fr_rng0 (fun i σ H' => ∃ (ls : List Int) (y5 y6 y7 y8 y9 y10 : Option V), σ = [some (.ref B.b), some (.ref a), some (.int (wy : Int)), some (.ref L), some (.int (mn : Int)), y5, y6, y7, y8, y9, y10, none, none] ∧ Wg B H H' ∧ H' L = some (.lst (ls.map V.int)) ∧ ls.Perm es)
      ⟨ls, none, none, none, none, none, none, rfl, w4, hL, pm⟩ ?_ ?_
    · rintro i σ Ha hi ⟨ls, y5, y6, y7, y8, y9, y10, rfl, wa, hLa, pm⟩
      have ll := pm.length_eq
      have rg : ∀ x ∈ ls, -1 ≤ x ∧ x ≤ 999 := fun x hx => I.2.2 x (pm.mem_iff.mp hx)
      have hr3 : -100000 ≤ (((ls.map V.int).length : Nat) : Int) ∧ (((ls.map V.int).length : Nat) : Int) ≤ 100000 := by rw [List.length_map]; omega
      walk_at "rx"
      rw [show ((((ls.map V.int).length : Nat) : Int)).toNat = ls.length by rw [List.length_map]; omega]
      refine lc_acc walk_rng (fun i acc => ∃ ps, acc = nvs ps ∧ (∀ p ∈ ps, p < ls.length ∧ partL ls p wy ≠ []) ∧ ps.length ≤ i) ⟨[], rfl, fun p hp => (by cases hp), Nat.zero_le _⟩ (fun i acc hi e => by obtain ⟨ps, rfl, _, l⟩ := e; rw [nvs_len]; omega) (fun _ _ => trivial) ?_ ?_
      · rintro j x Hx Hy acc Qc R hj Sx ⟨ps, rfl, lt, lp⟩ ⟨rfl, rfl⟩ qc rc
        have hLx := Sx _ _ hLa
        walk_at "rx"
        refine ⟨rfl, ?_⟩
        walk_at "rx"
        refine ⟨L, ls, j, wy, rfl, hLx, by omega, rg, hj, fun H6 P S6 nP hP => ?_⟩
        walk_at "rx"
        refine rd_newQ (by simp) fun H7 O S7 nO hO => ?_
        have hP2 : H7 P = some (.lst ((niz (partL ls j wy)).map V.int)) := S7 _ _ hP
        refine rd_neN hP2 hO ?_
        have hne := List.isEmpty_iff (l := niz (partL ls j wy))
        cases hb : (niz (partL ls j wy)).isEmpty with
        | false =>
          walk_at "rx"
          refine qc _ _ (S6.trans S7) ⟨ps ++ [j], by rw [nvs_app]; rfl, fun p hp => ?_, by rw [List.length_append]; exact Nat.succ_le_succ lp⟩
          rcases List.mem_append.mp hp with y | y
          · exact lt p y
          · rw [List.mem_singleton.mp y]
            exact ⟨hj, fun e => by rw [e] at hb; cases hb⟩
        | true =>
          walk_at "rx"
          exact rc _ (S6.trans S7) ⟨ps, rfl, lt, by omega⟩
      rintro Hb O acc Sb nO hO ⟨ps, rfl, lt, lp⟩
      have wb := wa.same Sb
      have hLb := Sb _ _ hLa
      walk_at "rx"
      refine rd_newQ (by simp) fun Hc O2 Sc nO2 hO2 => ?_
      have hOc := Sc _ _ hO
      have hLc := Sc _ _ hLb
      have wc := wb.same Sc
      have mO : O ∉ B.m := B.nem wa.i1 nO
      have hOc2 : Hc O = some (.lst ((niz ps).map V.int)) := hOc
      refine rd_neN hOc2 hO2 ?_
      cases ps with
      | nil =>
        walk_at "rx"
        show if false = true then _ else _
        walk_at "rx"
        exact ⟨ls, _, _, _, _, _, _, rfl, wc, hLc, pm⟩
      | cons p0 pr =>
        walk_at "rx"
        show if true = true then _ else _
        walk_at "rx"
        refine ⟨B, ((nvs (p0 :: pr)).length : Nat), rfl, hB, wc.i1, by rw [nvs_len, List.length_cons]; omega, by rw [nvs_len]; omega, fun Hd d1 wd hd1 => ?_⟩
        rw [nvs_len] at hd1
        have l1 : d1 < (p0 :: pr).length := by omega
        have e1 : (p0 :: pr)[d1]? = some (p0 :: pr)[d1] := List.getElem?_eq_getElem l1
        have o1 := lt _ (List.getElem_mem l1)
        have hOd := wd.lst mO hOc
        have hLd := wd.lst mL hLc
        have wcd := wc.trans wd
        have ax := nvs_atI (i := d1) e1
        generalize (p0 :: pr)[d1] = one at *
        walk_at "rx"
        refine ⟨L, ls, one, wy, rfl, hLd, by omega, rg, o1.1, fun He P Se nP hP => ?_⟩
        have hLe := Se _ _ hLd
        have we := wcd.same Se
        have mP : P ∉ B.m := B.nem wcd.i1 nP
        have plt := fun p (h : p ∈ partL ls one wy) => part_lt h
        have ple := part_len ls one wy
        have pne : 0 < (partL ls one wy).length := List.length_pos_iff.mpr o1.2
        generalize partL ls one wy = qs at *
        walk_at "rx"
        refine ⟨B, ((nvs qs).length : Nat), rfl, hB, we.i1, by rw [nvs_len]; omega, by rw [nvs_len]; omega, fun Hf d2 wf hd2 => ?_⟩
        rw [nvs_len] at hd2
        have l2 : d2 < qs.length := by omega
        have e2 : qs[d2]? = some qs[d2] := List.getElem?_eq_getElem l2
        have o2 := plt _ (List.getElem_mem l2)
        have hPf := wf.lst mP hP
        have hLf := wf.lst mL hLe
        have wef := we.trans wf
        have ay := nvs_atI (i := d2) e2
        generalize qs[d2] = two at *
        have a1 : atI (ls.map V.int) (one : Int) = some (.int (ls.getD one 0)) := atI_ints (by omega) (by omega)
        have a2 : atI (ls.map V.int) (two : Int) = some (.int (ls.getD two 0)) := atI_ints (by omega) (by omega)
        have x1 : ixN (ls.map V.int).length ((one : Nat) : Int) = some one := ixN_of rfl (by rw [List.length_map]; omega)
        walk_at "rx"
        have hLg : (upd Hf L (.lst ((ls.map V.int).set one (.int (ls.getD two 0))))) L = some (.lst ((ls.set one (ls.getD two 0)).map V.int)) := by rw [upd_same, List.map_set]
        have wg : Wg B H (upd Hf L (.lst ((ls.map V.int).set one (.int (ls.getD two 0))))) := wef.mut nL
        generalize upd Hf L (.lst ((ls.map V.int).set one (.int (ls.getD two 0)))) = Hg at *
        have x2 : ixN ((ls.set one (ls.getD two 0)).map V.int).length ((two : Nat) : Int) = some two := ixN_of rfl (by rw [List.length_map, List.length_set]; omega)
        walk_at "rx"
        exact ⟨_, _, _, _, _, _, _, rfl, wg.mut nL, by rw [upd_same, ← List.map_set], (set_set_perm (by omega) (by omega)).trans pm⟩
    · rintro σ Ha ⟨ls, y5, y6, y7, y8, y9, y10, rfl, wa, hLa, pm⟩
      walk_at "rx"
      exact rd_tupF hLa fun H6 b S6 nb gb => q H6 b ls (wa.same S6) gb ⟨pm.symm, nd⟩
def sp_law_with (_K : PySem.W.Frag) : Sp := fun vs H Q _ => ∃ (a : Addr) (es : List Int) (i : Nat) (e : Int), vs = [.ref a, .int (i : Int), .int e] ∧ TG H a es ∧ i < es.length ∧ es.length ≤ 12 ∧ ∀ H' D, Same H H' → TG H' D (es.set i e) → Q (.ref D) H'
set_option maxHeartbeats 4000000 in
theorem ok_law_with (T : Top K mg) {f : Addr} {fd : FuncData} (D : Def K mg "_law_with" s_law_with ["image", "at", "entry"] f fd) : FnOk P w K mg base CX0 1 f fd ["image", "at", "entry"] (sp_law_with K) := by
  refine D.F.ok sc_law_with (fun vs H Q E h => ?_) (fun cdv A outer s H vs Q E hr h => ?_)
  · obtain ⟨a, es, i, e, rfl, _⟩ := h
    rfl
  · obtain ⟨a, es, i, e, rfl, ha, hi, e12, q⟩ := h
    refine ⟨_, (pss_one (ps_ret (pe_op (r := rCat3 K) op_cat3 (pe_op (r := rCat3 K) op_cat3 (pe_slice sl_tup (pv 0) po_none (po_some (pv 1))) (pe_tup (pa_cons (pv 2) pa_nil))) (pe_slice sl_tup (pv 0) (po_some (pe_op op_add (pv 1) pe_int)) po_none)))), ?_⟩
    walk_at "rx"
    refine rd_slO ha (fun k => by have := k.2; rw [HT.sIx_nat, Nat.min_eq_left (by omega)] at this; omega) ?_
    refine rd_newL fun H1 p1 S1 n1 h1 => ?_
    rw [cutI_to es (by omega)] at h1
    have t1 := TG.of h1
    walk_at "rx"
    refine rd_newQ (by simp) fun H2 p2 S2 n2 h2 => ?_
    have t2 : TG H2 p2 [e] := .of h2
    have t12 := t1.same S2
    refine rd_cat3O t12 t2 (by rw [List.length_take]; simp; omega) fun H3 p3 S3 t3 => ?_
    have ha3 := ((ha.same S1).same S2).same S3
    walk_at "rx"
    rw [show (i : Int) + 1 = ((i + 1 : Nat) : Int) by omega]
    refine rd_slO ha3 (fun k => by have := k.1; rw [HT.sIx_nat] at this; omega) ?_
    refine rd_newL fun H4 p4 S4 n4 h4 => ?_
    rw [cutI_from es (by omega)] at h4
    have t4 := TG.of h4
    have t34 := t3.same S4
    refine rd_cat3O t34 t4 (by rw [List.length_append, List.length_take, List.length_drop]; simp; omega) fun H5 p5 S5 t5 => ?_
    rw [List.append_assoc, show [e] ++ es.drop (i + 1) = e :: es.drop (i + 1) from rfl] at t5
    refine q H5 p5 ((((S1.trans S2).trans S3).trans S4).trans S5) ?_
    rw [List.set_eq_take_append_cons_drop, if_pos hi]
    exact t5
def sp_law_doubled (_K : PySem.W.Frag) : Sp := fun vs H Q _ => ∃ (a : Addr) (es : List Int) (g k : Int), vs = [.ref a, .int g, .int k] ∧ TG H a es ∧ es.length ≤ 12 ∧ ∀ H' D, Same H H' → TG H' D (dblL es g k) → Q (.ref D) H'
set_option maxHeartbeats 4000000 in
theorem ok_law_doubled (T : Top K mg) {f : Addr} {fd : FuncData} (D : Def K mg "_law_doubled" s_law_doubled ["image", "gone", "kept"] f fd) : FnOk P w K mg base CX0 1 f fd ["image", "gone", "kept"] (sp_law_doubled K) := by
  refine D.F.ok sc_law_doubled (fun vs H Q E h => ?_) (fun cdv A outer s H vs Q E hr h => ?_)
  · obtain ⟨a, es, g, k, rfl, _⟩ := h
    rfl
  · obtain ⟨a, es, g, k, rfl, ha, e12, q⟩ := h
    refine ⟨_, (pss_one (ps_ret (pe_callTy (r := rTupQ K) call_tupQ (by rfl) T.b_tuple (by decide +kernel) (pa_cons (pe_lc (own := [("entry", 3)]) (g := gName 3) (tt := tYes) rfl sc_law_doubled.nd (pi_tup (pv 0))
      (blkOk_by (own := [("entry", 3)]) (N := ["image", "gone", "kept", "entry"]) (sc := defScope s_law_doubled) (by decide +kernel)) (fun _ _ _ _ _ => (pg_name (i := 3) sc_law_doubled.nd rfl (.inl rfl))) (fun _ _ _ _ _ => pts_nil)
      (fun _ _ _ _ _ => (pe_ifExp (pt_cmpR op_eq (pv 3) (pv 1) (nomark _)) (pv 2) (pv 3)))) pa_nil)))), ?_⟩
    walk_at "rx"
    refine lc_map (walk_tup (xs := es.map V.int)) ((dblL es g k).map V.int) (by rw [List.length_map, List.length_map]; exact List.length_map ..) (by rw [List.length_map]; omega) (fun H' S => (ha.same S).sq) ?_ ?_
    · rintro i x Hx Hy Qc R hi Sx ⟨rfl, ex⟩ qc
      have hi2 : i < es.length := by rw [List.length_map] at hi; exact hi
      rw [List.getElem?_map, get_at hi2] at ex
      cases ex
      have il : ((dblL es g k).map V.int)[i]? = some (V.int (if es.getD i 0 = g then k else es.getD i 0)) := by
        unfold dblL
        rw [List.getElem?_map, List.getElem?_map, get_at hi2]
        rfl
      walk_at "rx"
      refine ⟨rfl, ?_⟩
      walk_at "rx"
      by_cases z : es.getD i 0 = g
      · rw [decide_eq_true (show V.int (es.getD i 0) = V.int g from by rw [z])]
        walk_at "rx"
        rw [if_pos z] at il
        exact qc _ _ (Same.refl _) il
      · rw [decide_eq_false (show ¬ V.int (es.getD i 0) = V.int g from fun w => z (V.int.inj w))]
        walk_at "rx"
        rw [if_neg z] at il
        exact qc _ _ (Same.refl _) il
    · intro H2 D S2 nD hD
      walk_at "rx"
      exact rd_newL fun H3 p S3 np hp => q H3 p (S2.trans S3) (.of hp)
def sp_law_fresh (_K : PySem.W.Frag) : Sp := fun vs H Q _ => ∃ (B : Box) (a : Addr) (es : List Int), vs = [.ref B.b, .ref a] ∧ IsBk B ∧ B.I H ∧ TG H a es ∧ es.length ≤ 12 ∧ ∀ H' (v : Int), Wg B H H' → 0 ≤ v → v ≤ 999 → v ∉ es → Q (.int v) H'
set_option maxHeartbeats 4000000 in
theorem ok_law_fresh (T : Top K mg) {f : Addr} {fd : FuncData} (D : Def K mg "_law_fresh" s_law_fresh ["box", "image"] f fd) : FnOk P w K mg base CX0 2 f fd ["box", "image"] (sp_law_fresh K) := by
  obtain ⟨f_law_take, fd_law_take, D_law_take⟩ := T.d__law_take
  have G_law_take : FnOk P w K mg base CX0 1 f_law_take fd_law_take ["box", "limit"] (sp_law_take K) := ok_law_take T D_law_take
  refine D.F.ok sc_law_fresh (fun vs H Q E h => ?_) (fun cdv A outer s H vs Q E hr h => ?_)
  · obtain ⟨B, a, es, rfl, _⟩ := h
    rfl
  · obtain ⟨B, a, es, rfl, hB, i0, ha, e12, q⟩ := h
    have h13 : -100000 ≤ (13 : Int) ∧ (13 : Int) ≤ 100000 := by decide
    refine ⟨_, (pss_cons (ps_set (i := 2) sc_law_fresh.nd rfl (.inl rfl) (pe_call G_law_take hr (by rfl) D_law_take.g D_law_take.F.kp D_law_take.b .nil pass0 (pa_cons (pv 0) (pa_cons pe_int pa_nil))))
    (pss_cons (ps_for PassesOwn.never rfl (pi_range1 (by rfl) T.b_range (pa_cons pe_int pa_nil)) (pg_name (i := 3) sc_law_fresh.nd rfl (.inl rfl)) (pss_one (ps_if (pt_cmpR (r := rIn K false) op_in_seq (pv 2) (pv 1) (by rfl)) (pss_one (ps_set (i := 2) sc_law_fresh.nd rfl (.inl rfl) (pe_op op_modN (pe_callTy call_intQ (by rfl) T.b_int (by decide +kernel) (pa_cons (pe_op op_add (pv 2) pe_int) pa_nil)) pe_int))) pss_nil)))
    (pss_one (ps_ret (pv 2))))), ?_⟩
    walk_at "rx"
    refine ⟨B, 1000, rfl, hB, i0, by decide, by decide, fun H1 d w1 hd => ?_⟩
    have ha1 := ha.wg w1
    walk_at "rx"
    refine fr_rng0 (fun j σ H' => ∃ (k : Nat) (u : Int) (y3 : Option V), σ = [some (.ref B.b), some (.ref a), some (.int u), y3] ∧ H' = H1 ∧ Cand (c1000 d) es k j u) ⟨0, d, none, rfl, rfl, by
      have := Cand.zero (c := c1000 d) (found := es)
      rw [show c1000 d 0 = d by unfold c1000; omega] at this
      exact this⟩ ?_ ?_
    · rintro j σ H' hj ⟨k, u, y3, rfl, rfl, cd⟩
      walk_at "rx"
      refine rd_inO ha1 rfl ?_
      rw [inV_ints]
      by_cases z : u ∈ es
      · rw [decide_eq_true z]
        walk_at "rx"
        refine ⟨k + 1, _, _, rfl, rfl, ?_⟩
        have := cd.step z
        rw [c1000_next, ← cd.eq] at this
        exact this
      · rw [decide_eq_false z]
        walk_at "rx"
        exact ⟨k, u, _, rfl, rfl, cd.stay z⟩
    · rintro σ H' ⟨k, u, y3, rfl, rfl, cd⟩
      have nu := cd.done (by omega) (fun a b ha hb e => c1000_inj d a b ha hb e)
      walk_at "rx"
      exact q H' u w1 (by rw [cd.eq]; unfold c1000; omega) (by rw [cd.eq]; unfold c1000; omega) nu
def sp_law_bad_values (_K : PySem.W.Frag) : Sp := fun vs H Q _ => ∃ (B : Box) (a b : Addr) (es fs : List Int) (w : Nat), vs = [.ref B.b, .ref a, .ref b, .int (w : Int)] ∧ IsBk B ∧ B.I H ∧ TG H a es ∧ TG H b fs ∧ Img es ∧ Img fs ∧ Ren es fs ∧
  ∀ H' p v1 v2 d s k, Wg B H H' → H' p = some (.lst [v1, v2, .ref d]) → H' d = some (.lst [.str s, .int k]) → BadC H' v1 v2 s k → Q (.ref p) H'
set_option maxHeartbeats 4000000 in
theorem ok_law_bad_values (T : Top K mg) {f : Addr} {fd : FuncData} (D : Def K mg "_law_bad_values" s_law_bad_values ["box", "before", "after", "way"] f fd) : FnOk P w K mg base CX0 3 f fd ["box", "before", "after", "way"] (sp_law_bad_values K) := by
  obtain ⟨f_law_with, fd_law_with, D_law_with⟩ := T.d__law_with
  have G_law_with : FnOk P w K mg base CX0 1 f_law_with fd_law_with ["image", "at", "entry"] (sp_law_with K) := ok_law_with T D_law_with
  obtain ⟨f_law_doubled, fd_law_doubled, D_law_doubled⟩ := T.d__law_doubled
  have G_law_doubled : FnOk P w K mg base CX0 1 f_law_doubled fd_law_doubled ["image", "gone", "kept"] (sp_law_doubled K) := ok_law_doubled T D_law_doubled
  obtain ⟨f_law_take, fd_law_take, D_law_take⟩ := T.d__law_take
  have G_law_take : FnOk P w K mg base CX0 1 f_law_take fd_law_take ["box", "limit"] (sp_law_take K) := ok_law_take T D_law_take
  obtain ⟨f_law_fresh, fd_law_fresh, D_law_fresh⟩ := T.d__law_fresh
  have G_law_fresh : FnOk P w K mg base CX0 2 f_law_fresh fd_law_fresh ["box", "image"] (sp_law_fresh K) := ok_law_fresh T D_law_fresh
  refine D.F.ok sc_law_bad_values (fun vs H Q E h => ?_) (fun cdv A outer s H vs Q E hr h => ?_)
  · obtain ⟨B, a, b, es, fs, w, rfl, _⟩ := h
    rfl
  · obtain ⟨B, a, b, es, fs, w, rfl, hB, i0, ha, hb, I, J, R, q⟩ := h
    have e12 := I.2.1
    have le := R.len
    have hr1 : -100000 ≤ ((es.length : Nat) : Int) ∧ ((es.length : Nat) : Int) ≤ 100000 := by omega
    have done : ∀ {H' p v1 v2 d es2 fs2}, Wg B H H' → H' p = some (.lst [v1, v2, .ref d]) → H' d = some (.lst [.str sRen, .int 0]) → IG H' v1 es2 → IG H' v2 fs2 → ¬ Ren es2 fs2 → Q (.ref p) H' := fun w hp hd i1 i2 n => q _ _ _ _ _ sRen 0 w hp hd (.inr ⟨rfl, rfl, _, _, i1, i2, n⟩)
    refine ⟨_, (pss_cons (ps_set (i := 4) sc_law_bad_values.nd rfl (.inl rfl) (pe_callB (r := rLenQ K) call_lenQ (by rfl) T.b_len PySem.boot_len (pa_cons (pv 1) pa_nil)))
    (pss_cons (ps_setLc (i := 5) (own := [("k", 11)]) (g := gName 11) (tt := _) rfl sc_law_bad_values.nd rfl rfl (sw_true rfl rfl rfl (by decide +kernel)) (pi_range1 (by rfl) T.b_range (pa_cons (pv 4) pa_nil))
      (blkOk_by (own := [("k", 11)]) (N := ["box", "before", "after", "way", "blocks", "full", "empty", "due", "gone", "kept", "entry", "k"]) (sc := defScope s_law_bad_values) (by decide +kernel)) (fun _ _ _ _ _ => (pg_name (i := 11) sc_law_bad_values.nd rfl (.inl rfl))) (fun _ _ _ _ _ => pts_one (pt_cmpR op_ne (pe_ix (r := rIxT K) ix_tup (pv 2) (pv 11) (fun _ _ => rfl)) (pe_un un_neg pe_int) (nomark _)))
      (fun _ _ _ _ _ => (pv 11)))
    (pss_cons (ps_setLc (i := 6) (own := [("k", 11)]) (g := gName 11) (tt := _) rfl sc_law_bad_values.nd rfl rfl (sw_true rfl rfl rfl (by decide +kernel)) (pi_range1 (by rfl) T.b_range (pa_cons (pv 4) pa_nil))
      (blkOk_by (own := [("k", 11)]) (N := ["box", "before", "after", "way", "blocks", "full", "empty", "due", "gone", "kept", "entry", "k"]) (sc := defScope s_law_bad_values) (by decide +kernel)) (fun _ _ _ _ _ => (pg_name (i := 11) sc_law_bad_values.nd rfl (.inl rfl))) (fun _ _ _ _ _ => pts_one (pt_cmpR op_eq (pe_ix (r := rIxT K) ix_tup (pv 2) (pv 11) (fun _ _ => rfl)) (pe_un un_neg pe_int) (nomark _)))
      (fun _ _ _ _ _ => (pv 11)))
    (pss_cons (ps_set (i := 7) sc_law_bad_values.nd rfl (.inl rfl) (pe_lst (pa_cons pe_str (pa_cons pe_int pa_nil))))
    (pss_cons (ps_if (pt_cmpR op_eq (pv 3) pe_int (nomark _)) (pss_cons (ps_if (pt_cmpR op_lt (pv 4) pe_int (nomark _)) (pss_one (ps_ret (pe_lst (pa_cons (pv 1) (pa_cons (pe_op (r := rCat3 K) op_cat3 (pv 2) (pe_tup (pa_cons (pe_un un_neg pe_int) pa_nil))) (pa_cons (pv 7) pa_nil)))))) pss_nil)
    (pss_one (ps_ret (pe_lst (pa_cons (pv 1) (pa_cons (pe_slice sl_tup (pv 2) po_none (po_some pe_int)) (pa_cons (pv 7) pa_nil))))))) pss_nil)
    (C8.pss_cut (ps_if (PW.pt (pw_and (pt_cmpR op_eq (pv 3) pe_int (nomark _)) (pw_and1 (pt_cmpR op_gt (pe_callB (r := rLenQ K) call_lenQ (by rfl) T.b_len PySem.boot_len (pa_cons (pv 5) pa_nil)) pe_int (nomark _))))) (pss_cons (ps_set (i := 8) sc_law_bad_values.nd rfl (.inr rfl) (pe_ix (r := rIxT K) ix_tup (pv 2) (pe_ix (r := rIxL K) ix_list (pv 5) (pe_call G_law_take (hr.mono (by decide)) (by rfl) D_law_take.g D_law_take.F.kp D_law_take.b .nil pass0 (pa_cons (pv 0) (pa_cons (pe_callB (r := rLenQ K) call_lenQ (by rfl) T.b_len PySem.boot_len (pa_cons (pv 5) pa_nil)) pa_nil))) (fun _ _ => rfl)) (fun _ _ => rfl)))
    (pss_cons (ps_set (i := 9) sc_law_bad_values.nd rfl (.inl rfl) (pe_ix (r := rIxT K) ix_tup (pv 2) (pe_ix (r := rIxL K) ix_list (pe_lc (own := [("k", 11)]) (g := gName 11) (tt := _) rfl sc_law_bad_values.nd (pi_list (pv 5))
      (blkOk_by (own := [("k", 11)]) (N := ["box", "before", "after", "way", "blocks", "full", "empty", "due", "gone", "kept", "entry", "k"]) (sc := defScope s_law_bad_values) (by decide +kernel)) (fun _ _ _ _ _ => (pg_name (i := 11) sc_law_bad_values.nd rfl (.inl rfl))) (fun _ _ _ _ _ => pts_one (pt_cmpR op_ne (pe_ix (r := rIxT K) ix_tup (pv 2) (pv 11) (fun _ _ => rfl)) (pv 8) (nomark _)))
      (fun _ _ _ _ _ => (pv 11))) (pe_call G_law_take (hr.mono (by decide)) (by rfl) D_law_take.g D_law_take.F.kp D_law_take.b .nil pass0 (pa_cons (pv 0) (pa_cons (pe_op op_sub (pe_callB (r := rLenQ K) call_lenQ (by rfl) T.b_len PySem.boot_len (pa_cons (pv 5) pa_nil)) pe_int) pa_nil))) (fun _ _ => rfl)) (fun _ _ => rfl)))
    (pss_one (ps_ret (pe_lst (pa_cons (pe_call G_law_doubled (hr.mono (by decide)) (by rfl) D_law_doubled.g D_law_doubled.F.kp D_law_doubled.b .nil pass0 (pa_cons (pv 1) (pa_cons (pv 8) (pa_cons (pv 9) pa_nil)))) (pa_cons (pe_call G_law_doubled (hr.mono (by decide)) (by rfl) D_law_doubled.g D_law_doubled.F.kp D_law_doubled.b .nil pass0 (pa_cons (pv 2) (pa_cons (pv 8) (pa_cons (pv 9) pa_nil)))) (pa_cons (pv 7) pa_nil)))))))) pss_nil)
    (C8.pss_cut (ps_if (PW.pt (pw_and (pt_cmpR op_eq (pv 3) pe_int (nomark _)) (pw_and (pt_cmpR (op_neD hr.units) (pv 5) (pe_lst pa_nil) (nomark _)) (pw_and1 (pt_cmpR (op_neD hr.units) (pv 6) (pe_lst pa_nil) (nomark _)))))) (pss_cons (ps_set (i := 10) sc_law_bad_values.nd rfl (.inl rfl) (pe_ix (r := rIxT K) ix_tup (pv 2) (pe_ix (r := rIxL K) ix_list (pv 5) (pe_call G_law_take (hr.mono (by decide)) (by rfl) D_law_take.g D_law_take.F.kp D_law_take.b .nil pass0 (pa_cons (pv 0) (pa_cons (pe_callB (r := rLenQ K) call_lenQ (by rfl) T.b_len PySem.boot_len (pa_cons (pv 5) pa_nil)) pa_nil))) (fun _ _ => rfl)) (fun _ _ => rfl)))
    (pss_one (ps_ret (pe_lst (pa_cons (pv 1) (pa_cons (pe_call G_law_with (hr.mono (by decide)) (by rfl) D_law_with.g D_law_with.F.kp D_law_with.b .nil pass0 (pa_cons (pv 2) (pa_cons (pe_ix (r := rIxL K) ix_list (pv 6) (pe_call G_law_take (hr.mono (by decide)) (by rfl) D_law_take.g D_law_take.F.kp D_law_take.b .nil pass0 (pa_cons (pv 0) (pa_cons (pe_callB (r := rLenQ K) call_lenQ (by rfl) T.b_len PySem.boot_len (pa_cons (pv 6) pa_nil)) pa_nil))) (fun _ _ => rfl)) (pa_cons (pv 10) pa_nil)))) (pa_cons (pv 7) pa_nil))))))) pss_nil)
    (C8.pss_cut (ps_if (PW.pt (pw_and (pt_cmpR op_eq (pv 3) pe_int (nomark _)) (pw_and1 (pt_cmpR (op_neD hr.units) (pv 5) (pe_lst pa_nil) (nomark _))))) (pss_one (ps_ret (pe_lst (pa_cons (pv 1) (pa_cons (pe_call G_law_with (hr.mono (by decide)) (by rfl) D_law_with.g D_law_with.F.kp D_law_with.b .nil pass0 (pa_cons (pv 2) (pa_cons (pe_ix (r := rIxL K) ix_list (pv 5) (pe_call G_law_take (hr.mono (by decide)) (by rfl) D_law_take.g D_law_take.F.kp D_law_take.b .nil pass0 (pa_cons (pv 0) (pa_cons (pe_callB (r := rLenQ K) call_lenQ (by rfl) T.b_len PySem.boot_len (pa_cons (pv 5) pa_nil)) pa_nil))) (fun _ _ => rfl)) (pa_cons (pe_un un_neg pe_int) pa_nil)))) (pa_cons (pv 7) pa_nil)))))) pss_nil)
    (pss_one (ps_ret (pe_lst (pa_cons (pv 1) (pa_cons (pe_call G_law_with (hr.mono (by decide)) (by rfl) D_law_with.g D_law_with.F.kp D_law_with.b .nil pass0 (pa_cons (pv 2) (pa_cons (pe_call G_law_take (hr.mono (by decide)) (by rfl) D_law_take.g D_law_take.F.kp D_law_take.b .nil pass0 (pa_cons (pv 0) (pa_cons (pv 4) pa_nil))) (pa_cons (pe_call G_law_fresh hr (by rfl) D_law_fresh.g D_law_fresh.F.kp D_law_fresh.b .nil pass0 (pa_cons (pv 0) (pa_cons (pv 1) pa_nil))) pa_nil)))) (pa_cons (pv 7) pa_nil)))))))))))))), ?_⟩
    walk_at "rx"
    rw [show (((es.length : Nat) : Int)).toNat = fs.length by omega]
    refine lc_acc walk_rng (fun i acc => acc = nvs (fulP fs i)) rfl (fun i acc hi e => by have := fulP_len fs i; rw [e, nvs_len]; omega) (fun _ _ => trivial) ?_ ?_
    · rintro i x Hx Hy acc Qc R2 hi Sx e ⟨rfl, rfl⟩ qc rc
      have hbx := hb.same Sx
      have ai : atI (fs.map V.int) (i : Int) = some (.int (fs.getD i 0)) := atI_ints (by omega) (by omega)
      have nx : fulP fs (i + 1) = fulP fs i ++ if (!decide (V.int (fs.getD i 0) = V.int (-1))) = true then [i] else [] := fr_next (p := fun k => !decide (V.int (fs.getD k 0) = V.int (-1))) i
      walk_at "rx"
      refine ⟨rfl, ?_⟩
      walk_at "rx"
      refine ite2 (fun z => ?_) (fun z => ?_)
      · walk_at "rx"
        refine qc _ _ (Same.refl _) ?_
        rw [nx, if_pos z, nvs_app, e]
        rfl
      · refine rc _ (Same.refl _) ?_
        rw [nx, if_neg z, List.append_nil]
        exact e
    intro H1 F acc S1 nF hF e
    subst e
    have hb1 := hb.same S1
    walk_at "rx"
    rw [show (((es.length : Nat) : Int)).toNat = fs.length by omega]
    refine lc_acc walk_rng (fun i acc => acc = nvs (empP fs i)) rfl (fun i acc hi e => by have := empP_len fs i; rw [e, nvs_len]; omega) (fun _ _ => trivial) ?_ ?_
    · rintro i x Hx Hy acc Qc R2 hi Sx e ⟨rfl, rfl⟩ qc rc
      have hbx := hb1.same Sx
      have ai : atI (fs.map V.int) (i : Int) = some (.int (fs.getD i 0)) := atI_ints (by omega) (by omega)
      have nx : empP fs (i + 1) = empP fs i ++ if (decide (V.int (fs.getD i 0) = V.int (-1))) = true then [i] else [] := fr_next (p := fun k => decide (V.int (fs.getD k 0) = V.int (-1))) i
      walk_at "rx"
      refine ⟨rfl, ?_⟩
      walk_at "rx"
      refine ite2 (fun z => ?_) (fun z => ?_)
      · walk_at "rx"
        refine qc _ _ (Same.refl _) ?_
        rw [nx, if_pos z, nvs_app, e]
        rfl
      · refine rc _ (Same.refl _) ?_
        rw [nx, if_neg z, List.append_nil]
        exact e
    intro H2 G S2e S2 nG hG e
    subst e
    have hF2 := S2 _ _ hF
    walk_at "rx"
    refine rd_newQ (by simp) fun H3 d S3 nd hd => ?_
    have S03 := (S1.trans S2).trans S3
    have w3 := Wg.ofSame i0 S03
    have hF3 := S3 _ _ hF2
    have hG3 := S3 _ _ hG
    have ha3 := ha.same S03
    have hb3 := hb.same S03
    have mF : F ∉ B.m := B.nem i0 nF
    have mG : G ∉ B.m := B.nem (Wg.ofSame i0 S1).i1 nG
    have md : d ∉ B.m := B.nem (Wg.ofSame i0 (S1.trans S2)).i1 nd
    have fl := fulP_len fs fs.length
    have el := empP_len fs fs.length
    have mf : ∀ k, k ∈ fulP fs fs.length → k < fs.length ∧ fs.getD k 0 ≠ -1 := fun k h => mem_fulP.mp h
    have me : ∀ k, k ∈ empP fs fs.length → k < fs.length ∧ fs.getD k 0 = -1 := fun k h => mem_empP.mp h
    have ol := fun g => othP_len R (g := g)
    generalize eFu : fulP fs fs.length = fu at *
    generalize empP fs fs.length = em at *
    walk_at "rx"
    refine ite2 (fun z => ?_) (fun z => ?_)
    · walk_at "rx"
      refine ite2 (fun z2 => ?_) (fun z2 => ?_)
      · have l12 : es.length < 12 := by have : ((es.length : Nat) : Int) < 12 := of_decide_eq_true z2; omega
        walk_at "rx"
        refine rd_newQ (by simp) fun H4 O S4 nO hO => ?_
        have tO : TG H4 O [-1] := .of hO
        have hb4 := hb3.same S4
        refine rd_cat3O hb4 tO (by simp; omega) fun H5 C S5 tC => ?_
        walk_at "rx"
        refine rd_newQ (by simp) fun H6 p S6 np hp => ?_
        refine done (((w3.same S4).same S5).same S6) hp (S6 _ _ (S5 _ _ (S4 _ _ hd))) ⟨a, rfl, ((ha3.same S4).same S5).same S6, I⟩ ⟨C, rfl, tC.same S6, by rw [List.length_append]; simp, by rw [List.length_append]; simp; omega, fun x hx => ?_⟩ (fun r => by have := r.len; rw [List.length_append] at this; simp at this; omega)
        rcases List.mem_append.mp hx with y | y
        · exact J.2.2 x y
        · rw [List.mem_singleton.mp y]; decide
      · have l12 : es.length = 12 := by
          have : ¬ ((es.length : Nat) : Int) < 12 := fun k => z2 (decide_eq_true k)
          omega
        walk_at "rx"
        refine rd_slO hb3 (fun k => by
          have k2 := k.2
          rw [show (11 : Int) = ((11 : Nat) : Int) from rfl, HT.sIx_nat] at k2
          omega) ?_
        refine rd_newL fun H4 C S4 nC hC => ?_
        rw [show (11 : Int) = ((11 : Nat) : Int) from rfl, cutI_to _ (by omega)] at hC
        have tC := TG.of hC
        walk_at "rx"
        refine rd_newQ (by simp) fun H6 p S6 np hp => ?_
        exact done ((w3.same S4).same S6) hp (S6 _ _ (S4 _ _ hd)) ⟨a, rfl, (ha3.same S4).same S6, I⟩ ⟨C, rfl, tC.same S6, by rw [List.length_take]; omega, by rw [List.length_take]; omega, fun x hx => J.2.2 x (List.mem_of_mem_take hx)⟩ (fun r => by have := r.len; rw [List.length_take] at this; omega)
    walk_at "rx"
    refine ⟨fun σ' H' => σ' = [some (.ref B.b), some (.ref a), some (.ref b), some (.int (w : Int)), some (.int ((es.length : Nat) : Int)), some (.ref F), some (.ref G), some (.ref d), none, none, none, none] ∧ H' = H3, ?_, ?_⟩
    · walk_at "rx"
      refine ite2 (fun z => ?_) (fun z => ?_)
      · walk_at "rx"
        refine ite2 (fun z2 => ?_) (fun z2 => ?_)
        · have l2 : 1 < fu.length := by
            have : (1 : Int) < (((nvs fu).length : Nat) : Int) := of_decide_eq_true z2
            rw [nvs_len] at this
            omega
          walk_at "rx"
          refine ⟨B, ((nvs fu).length : Nat), rfl, hB, w3.i1, by rw [nvs_len]; omega, by rw [nvs_len]; omega, fun H4 d1 w4 hd1 => ?_⟩
          rw [nvs_len] at hd1
          have e1 : fu[d1]? = some fu[d1] := List.getElem?_eq_getElem (by omega)
          have o1 := mf _ (List.getElem_mem (show d1 < fu.length by omega))
          have ax := nvs_atI (i := d1) e1
          generalize fu[d1] = k1 at *
          have a1 : atI (fs.map V.int) (k1 : Int) = some (.int (fs.getD k1 0)) := atI_ints (by omega) (by omega)
          have hF4 := w4.lst mF hF3
          have hd4 := w4.lst md hd
          have ha4 := ha3.wg w4
          have hb4 := hb3.wg w4
          have w34 := w3.trans w4
          walk_at "rx"
          refine lc_acc (walk_list (xs := nvs fu)) (fun i acc => acc = nvs (othP fs (fs.getD k1 0) (fu.take i))) rfl (fun i acc hi e => by
            have := List.length_filter_le (fun k => !decide (V.int (fs.getD k 0) = V.int (fs.getD k1 0))) (fu.take i)
            rw [List.length_take] at this
            unfold othP at e
            rw [e, nvs_len]
            omega) (fun H' S => SqL.of (S _ _ hF4)) ?_ ?_
          · rintro i x Hx Hy acc Qc R2 hi Sx e ⟨rfl, ex⟩ qc rc
            rw [nvs_len] at hi
            rw [nvs_get (List.getElem?_eq_getElem hi)] at ex
            cases ex
            have hbx := hb4.same Sx
            have pl := (mf _ (List.getElem_mem hi)).1
            have ai : atI (fs.map V.int) ((fu[i] : Nat) : Int) = some (.int (fs.getD fu[i] 0)) := atI_ints (by omega) (by omega)
            have nx : othP fs (fs.getD k1 0) (fu.take (i + 1)) = othP fs (fs.getD k1 0) (fu.take i) ++ if (!decide (V.int (fs.getD fu[i] 0) = V.int (fs.getD k1 0))) = true then [fu[i]] else [] := fl_next (p := fun k => !decide (V.int (fs.getD k 0) = V.int (fs.getD k1 0))) hi
            walk_at "rx"
            refine ⟨rfl, ?_⟩
            walk_at "rx"
            refine ite2 (fun y => ?_) (fun y => ?_)
            · walk_at "rx"
              refine qc _ _ (Same.refl _) ?_
              rw [nx, if_pos y, nvs_app, e]
              rfl
            · refine rc _ (Same.refl _) ?_
              rw [nx, if_neg y, List.append_nil]
              exact e
          intro H5 O acc S5 nO hO e
          rw [e, nvs_len, List.take_length] at hO
          have mO : O ∉ B.m := B.nem w4.i1 nO
          have ol2 := ol (fs.getD k1 0)
          have mo : ∀ k, k ∈ othP fs (fs.getD k1 0) fu → k ∈ fu ∧ fs.getD k 0 ≠ fs.getD k1 0 := fun k h => mem_othP.mp h
          generalize othP fs (fs.getD k1 0) fu = ot at *
          have hF5 := S5 _ _ hF4
          walk_at "rx"
          refine ⟨B, _, rfl, hB, (w34.same S5).i1, by rw [nvs_len]; omega, by rw [nvs_len]; omega, fun H6 d2 w6 hd2 => ?_⟩
          rw [nvs_len] at hd2
          have e2 : ot[d2]? = some ot[d2] := List.getElem?_eq_getElem (by omega)
          have o2 := mo _ (List.getElem_mem (show d2 < ot.length by omega))
          have ay := nvs_atI (i := d2) e2
          generalize ot[d2] = k2 at *
          have o22 := mf _ o2.1
          have a2 : atI (fs.map V.int) (k2 : Int) = some (.int (fs.getD k2 0)) := atI_ints (by omega) (by omega)
          have hO6 := w6.lst mO hO
          have hd6 := w6.lst md (S5 _ _ hd4)
          have ha6 := (ha4.same S5).wg w6
          have hb6 := (hb4.same S5).wg w6
          have w36 := (w34.same S5).trans w6
          walk_at "rx"
          refine ⟨a, es, _, _, rfl, ha6, e12, fun H7 D1 S7 t1 => ?_⟩
          have hb7 := hb6.same S7
          walk_at "rx"
          refine ⟨b, fs, _, _, rfl, hb7, by omega, fun H8 D2 S8 t2 => ?_⟩
          walk_at "rx"
          refine rd_newQ (by simp) fun H9 p S9 np hp => ?_
          exact done (((w36.same S7).same S8).same S9) hp (S9 _ _ (S8 _ _ (S7 _ _ hd6))) ⟨D1, rfl, (t1.same S8).same S9, img_dbl I (J.2.2 _ (mem_at o22.1))⟩ ⟨D2, rfl, t2.same S9, img_dbl J (J.2.2 _ (mem_at o22.1))⟩ (no_dbl R (mem_at o1.1) (mem_at o22.1) (fun z => o2.2 z.symm) o22.2)
        · exact ⟨rfl, rfl⟩
      · exact ⟨rfl, rfl⟩
    rintro σ' H' ⟨rfl, rfl⟩
    walk_at "rx"
    refine ⟨fun σ' H4 => σ' = [some (.ref B.b), some (.ref a), some (.ref b), some (.int (w : Int)), some (.int ((es.length : Nat) : Int)), some (.ref F), some (.ref G), some (.ref d), none, none, none, none] ∧ Same H' H4, ?_, ?_⟩
    · walk_at "rx"
      refine ite2 (fun z => ?_) (fun z => ?_)
      · walk_at "rx"
        refine rd_newQ (by simp) fun H4 O1 S4 nO1 hO1 => ?_
        have hF4 : H4 F = some (.lst ((niz fu).map V.int)) := S4 _ _ hF3
        refine rd_neN hF4 hO1 ?_
        cases fu with
        | nil =>
          walk_at "rx"
          show if false = true then _ else _
          exact ⟨rfl, S4⟩
        | cons f0 fr =>
          walk_at "rx"
          show if true = true then _ else _
          walk_at "rx"
          refine rd_newQ (by simp) fun H5 O2 S5 nO2 hO2 => ?_
          have hG5 : H5 G = some (.lst ((niz em).map V.int)) := S5 _ _ (S4 _ _ hG3)
          refine rd_neN hG5 hO2 ?_
          cases em with
          | nil =>
            walk_at "rx"
            show if false = true then _ else _
            exact ⟨rfl, S4.trans S5⟩
          | cons g0 gr =>
            walk_at "rx"
            show if true = true then _ else _
            have hF5 := S5 _ _ hF4
            have hF5 : H5 F = some (.lst (nvs (f0 :: fr))) := hF5
            have hG5 : H5 G = some (.lst (nvs (g0 :: gr))) := hG5
            have w5 := (w3.same S4).same S5
            walk_at "rx"
            refine ⟨B, ((nvs (f0 :: fr)).length : Nat), rfl, hB, w5.i1, by rw [nvs_len, List.length_cons]; omega, by rw [nvs_len]; omega, fun H6 d1 w6 hd1 => ?_⟩
            rw [nvs_len] at hd1
            have e1 : (f0 :: fr)[d1]? = some (f0 :: fr)[d1] := List.getElem?_eq_getElem (by omega)
            have o1 := mf _ (List.getElem_mem (show d1 < (f0 :: fr).length by omega))
            have ax := nvs_atI (i := d1) e1
            generalize (f0 :: fr)[d1] = k1 at *
            have a1 : atI (fs.map V.int) (k1 : Int) = some (.int (fs.getD k1 0)) := atI_ints (by omega) (by omega)
            have hF6 := w6.lst mF hF5
            have hG6 := w6.lst mG hG5
            have hd6 := w6.lst md (S5 _ _ (S4 _ _ hd))
            have ha6 := ((ha3.same S4).same S5).wg w6
            have hb6 := ((hb3.same S4).same S5).wg w6
            have w56 := w5.trans w6
            walk_at "rx"
            refine ⟨B, ((nvs (g0 :: gr)).length : Nat), rfl, hB, w6.i1, by rw [nvs_len, List.length_cons]; omega, by rw [nvs_len]; omega, fun H7 d2 w7 hd2 => ?_⟩
            rw [nvs_len] at hd2
            have e2 : (g0 :: gr)[d2]? = some (g0 :: gr)[d2] := List.getElem?_eq_getElem (by omega)
            have o2 := me _ (List.getElem_mem (show d2 < (g0 :: gr).length by omega))
            have ay := nvs_atI (i := d2) e2
            generalize (g0 :: gr)[d2] = k2 at *
            have hG7 := w7.lst mG hG6
            have hd7 := w7.lst md hd6
            have ha7 := ha6.wg w7
            have hb7 := hb6.wg w7
            have w57 := w56.trans w7
            walk_at "rx"
            refine ⟨b, fs, k2, _, rfl, hb7, by omega, by omega, fun H8 D1 S8 t1 => ?_⟩
            walk_at "rx"
            refine rd_newQ (by simp) fun H9 p S9 np hp => ?_
            exact done ((w57.same S8).same S9) hp (S9 _ _ (S8 _ _ hd7)) ⟨a, rfl, (ha7.same S8).same S9, I⟩ ⟨D1, rfl, t1.same S9, img_set J (J.2.2 _ (mem_at o1.1))⟩ (no_twice o1.1 o2.1 o1.2 o2.2)
      · exact ⟨rfl, Same.refl _⟩
    rintro σ' H4 ⟨rfl, S4⟩
    have hF4 := S4 _ _ hF3
    have hd4 := S4 _ _ hd
    have ha4 := ha3.same S4
    have hb4 := hb3.same S4
    have w4 := w3.same S4
    walk_at "rx"
    refine ⟨fun σ' H5 => σ' = [some (.ref B.b), some (.ref a), some (.ref b), some (.int (w : Int)), some (.int ((es.length : Nat) : Int)), some (.ref F), some (.ref G), some (.ref d), none, none, none, none] ∧ Same H4 H5, ?_, ?_⟩
    · walk_at "rx"
      refine ite2 (fun z => ?_) (fun z => ?_)
      · walk_at "rx"
        refine rd_newQ (by simp) fun H5 O1 S5 nO1 hO1 => ?_
        have hF5 : H5 F = some (.lst ((niz fu).map V.int)) := S5 _ _ hF4
        refine rd_neN hF5 hO1 ?_
        cases fu with
        | nil =>
          walk_at "rx"
          show if false = true then _ else _
          exact ⟨rfl, S5⟩
        | cons f0 fr =>
          walk_at "rx"
          show if true = true then _ else _
          have hF5 : H5 F = some (.lst (nvs (f0 :: fr))) := hF5
          have w5 := w4.same S5
          walk_at "rx"
          refine ⟨B, ((nvs (f0 :: fr)).length : Nat), rfl, hB, w5.i1, by rw [nvs_len, List.length_cons]; omega, by rw [nvs_len]; omega, fun H6 d1 w6 hd1 => ?_⟩
          rw [nvs_len] at hd1
          have e1 : (f0 :: fr)[d1]? = some (f0 :: fr)[d1] := List.getElem?_eq_getElem (by omega)
          have o1 := mf _ (List.getElem_mem (show d1 < (f0 :: fr).length by omega))
          have ax := nvs_atI (i := d1) e1
          generalize (f0 :: fr)[d1] = k1 at *
          have hF6 := w6.lst mF hF5
          have hd6 := w6.lst md (S5 _ _ hd4)
          have ha6 := (ha4.same S5).wg w6
          have hb6 := (hb4.same S5).wg w6
          walk_at "rx"
          refine ⟨b, fs, k1, _, rfl, hb6, by omega, by omega, fun H8 D1 S8 t1 => ?_⟩
          walk_at "rx"
          refine rd_newQ (by simp) fun H9 p S9 np hp => ?_
          exact done (((w5.trans w6).same S8).same S9) hp (S9 _ _ (S8 _ _ hd6)) ⟨a, rfl, (ha6.same S8).same S9, I⟩ ⟨D1, rfl, t1.same S9, img_set J (by decide)⟩ (no_gone R o1.1 o1.2)
      · exact ⟨rfl, Same.refl _⟩
    rintro σ' H5 ⟨rfl, S5⟩
    have w5 := w4.same S5
    walk_at "rx"
    refine ⟨B, _, rfl, hB, w5.i1, by have := I.1; omega, by omega, fun H6 t w6 ht => ?_⟩
    have ha6 := (ha4.same S5).wg w6
    walk_at "rx"
    refine ⟨B, a, es, rfl, hB, w6.i1, ha6, e12, fun H7 v w7 v0 v1 nv => ?_⟩
    have hd7 := w7.lst md (w6.lst md (S5 _ _ hd4))
    have ha7 := ha6.wg w7
    have hb7 := ((hb4.same S5).wg w6).wg w7
    walk_at "rx"
    refine ⟨b, fs, t, v, rfl, hb7, by omega, by omega, fun H8 D1 S8 t1 => ?_⟩
    walk_at "rx"
    refine rd_newQ (by simp) fun H9 p S9 np hp => ?_
    exact done ((((w5.trans w6).trans w7).same S8).same S9) hp (S9 _ _ (S8 _ _ hd7)) ⟨a, rfl, (ha7.same S8).same S9, I⟩ ⟨D1, rfl, t1.same S9, img_set J ⟨by omega, v1⟩⟩ (no_new (by omega) nv)
def sp_law_wrong (_K : PySem.W.Frag) : Sp := fun vs H Q _ => ∃ (B : Box), vs = [.ref B.b] ∧ IsBk B ∧ B.I H ∧ ∀ H' e, Wg B H H' → ¬ EOk e → Q (.int e) H'
set_option maxHeartbeats 4000000 in
theorem ok_law_wrong (T : Top K mg) {f : Addr} {fd : FuncData} (D : Def K mg "_law_wrong" s_law_wrong ["box"] f fd) : FnOk P w K mg base CX0 2 f fd ["box"] (sp_law_wrong K) := by
  obtain ⟨f_law_take, fd_law_take, D_law_take⟩ := T.d__law_take
  have G_law_take : FnOk P w K mg base CX0 1 f_law_take fd_law_take ["box", "limit"] (sp_law_take K) := ok_law_take T D_law_take
  refine D.F.ok sc_law_wrong (fun vs H Q E h => ?_) (fun cdv A outer s H vs Q E hr h => ?_)
  · obtain ⟨B, rfl, _⟩ := h
    rfl
  · obtain ⟨B, rfl, hB, i0, q⟩ := h
    refine ⟨_, (pss_cons (ps_set (i := 1) sc_law_wrong.nd rfl (.inl rfl) (pe_call G_law_take hr (by rfl) D_law_take.g D_law_take.F.kp D_law_take.b .nil pass0 (pa_cons (pv 0) (pa_cons pe_int pa_nil))))
    (pss_cons (ps_if (pt_cmpR op_eq (pv 1) pe_int (nomark _)) (pss_one (ps_ret (pe_un un_neg pe_int))) pss_nil)
    (pss_cons (ps_if (pt_cmpR op_eq (pv 1) pe_int (nomark _)) (pss_one (ps_ret pe_int)) pss_nil)
    (pss_cons (ps_if (pt_cmpR op_eq (pv 1) pe_int (nomark _)) (pss_one (ps_ret (pe_op op_add pe_int (pe_call G_law_take hr (by rfl) D_law_take.g D_law_take.F.kp D_law_take.b .nil pass0 (pa_cons (pv 0) (pa_cons (pe_op op_pow pe_int pe_int) pa_nil)))))) pss_nil)
    (pss_one (ps_ret (pe_op op_sub (pe_un un_neg pe_int) (pe_call G_law_take hr (by rfl) D_law_take.g D_law_take.F.kp D_law_take.b .nil pass0 (pa_cons (pv 0) (pa_cons (pe_op op_pow pe_int pe_int) pa_nil)))))))))), ?_⟩
    walk_at "rx"
    refine ⟨B, 4, rfl, hB, i0, by decide, by decide, fun H1 way w1 hw => ?_⟩
    walk_at "rx"
    refine ite2 (fun z => ?_) (fun z => ?_)
    · walk_at "rx"
      exact q _ _ w1 (by unfold EOk; omega)
    walk_at "rx"
    refine ite2 (fun z => ?_) (fun z => ?_)
    · walk_at "rx"
      exact q _ _ w1 (by unfold EOk; omega)
    walk_at "rx"
    refine ite2 (fun z => ?_) (fun z => ?_)
    · walk_at "rx"
      refine ⟨B, _, rfl, hB, w1.i1, by decide, by decide, fun H2 d w2 hd => ?_⟩
      walk_at "rx"
      exact q _ _ (w1.trans w2) (by unfold EOk; omega)
    · walk_at "rx"
      refine ⟨B, _, rfl, hB, w1.i1, by decide, by decide, fun H2 d w2 hd => ?_⟩
      walk_at "rx"
      exact q _ _ (w1.trans w2) (by unfold EOk; omega)
def sp_law_bad_image (_K : PySem.W.Frag) : Sp := fun vs H Q _ => ∃ (B : Box) (a b : Addr) (es fs : List Int) (w : Nat), vs = [.ref B.b, .ref a, .ref b, .int (w : Int)] ∧ IsBk B ∧ B.I H ∧ TG H a es ∧ TG H b fs ∧ Img es ∧ Img fs ∧ es.length = fs.length ∧
  ∀ H' p v1 v2 d s k, Wg B H H' → H' p = some (.lst [v1, v2, .ref d]) → H' d = some (.lst [.str s, .int k]) → BadC H' v1 v2 s k → Q (.ref p) H'
set_option maxHeartbeats 4000000 in
theorem ok_law_bad_image (T : Top K mg) {f : Addr} {fd : FuncData} (D : Def K mg "_law_bad_image" s_law_bad_image ["box", "before", "after", "way"] f fd) : FnOk P w K mg base CX0 3 f fd ["box", "before", "after", "way"] (sp_law_bad_image K) := by
  obtain ⟨f_law_take, fd_law_take, D_law_take⟩ := T.d__law_take
  have G_law_take : FnOk P w K mg base CX0 1 f_law_take fd_law_take ["box", "limit"] (sp_law_take K) := ok_law_take T D_law_take
  obtain ⟨f_law_wrong, fd_law_wrong, D_law_wrong⟩ := T.d__law_wrong
  have G_law_wrong : FnOk P w K mg base CX0 2 f_law_wrong fd_law_wrong ["box"] (sp_law_wrong K) := ok_law_wrong T D_law_wrong
  obtain ⟨f_law_with, fd_law_with, D_law_with⟩ := T.d__law_with
  have G_law_with : FnOk P w K mg base CX0 1 f_law_with fd_law_with ["image", "at", "entry"] (sp_law_with K) := ok_law_with T D_law_with
  refine D.F.ok sc_law_bad_image (fun vs H Q E h => ?_) (fun cdv A outer s H vs Q E hr h => ?_)
  · obtain ⟨B, a, b, es, fs, w, rfl, _⟩ := h
    rfl
  · obtain ⟨B, a, b, es, fs, w, rfl, hB, i0, ha, hb, I, J, le, q⟩ := h
    have e1 := I.1
    have e12 := I.2.1
    refine ⟨_, (pss_cons (ps_set (i := 4) sc_law_bad_image.nd rfl (.inl rfl) (pe_call G_law_take (hr.mono (by decide)) (by rfl) D_law_take.g D_law_take.F.kp D_law_take.b .nil pass0 (pa_cons (pv 0) (pa_cons (pe_callB (r := rLenQ K) call_lenQ (by rfl) T.b_len PySem.boot_len (pa_cons (pv 1) pa_nil)) pa_nil))))
    (pss_cons (ps_set (i := 5) sc_law_bad_image.nd rfl (.inl rfl) (pe_call G_law_take (hr.mono (by decide)) (by rfl) D_law_take.g D_law_take.F.kp D_law_take.b .nil pass0 (pa_cons (pv 0) (pa_cons (pe_callB (r := rLenQ K) call_lenQ (by rfl) T.b_len PySem.boot_len (pa_cons (pv 1) pa_nil)) pa_nil))))
    (pss_cons (ps_set (i := 6) sc_law_bad_image.nd rfl (.inl rfl) (pe_call G_law_wrong hr (by rfl) D_law_wrong.g D_law_wrong.F.kp D_law_wrong.b .nil pass0 (pa_cons (pv 0) pa_nil)))
    (pss_cons (ps_if (pt_cmpR op_eq (pv 3) pe_int (nomark _)) (pss_one (ps_ret (pe_lst (pa_cons (pe_call G_law_with (hr.mono (by decide)) (by rfl) D_law_with.g D_law_with.F.kp D_law_with.b .nil pass0 (pa_cons (pv 1) (pa_cons (pv 4) (pa_cons (pv 6) pa_nil)))) (pa_cons (pv 2) (pa_cons (pe_lst (pa_cons pe_str (pa_cons (pv 4) pa_nil))) pa_nil)))))) pss_nil)
    (pss_cons (ps_if (pt_cmpR op_eq (pv 3) pe_int (nomark _)) (pss_one (ps_ret (pe_lst (pa_cons (pv 1) (pa_cons (pe_call G_law_with (hr.mono (by decide)) (by rfl) D_law_with.g D_law_with.F.kp D_law_with.b .nil pass0 (pa_cons (pv 2) (pa_cons (pv 4) (pa_cons (pv 6) pa_nil)))) (pa_cons (pe_lst (pa_cons pe_str (pa_cons (pv 4) pa_nil))) pa_nil)))))) pss_nil)
    (pss_cons (ps_if (pt_cmpR op_eq (pv 3) pe_int (nomark _)) (pss_one (ps_ret (pe_lst (pa_cons (pe_call G_law_with (hr.mono (by decide)) (by rfl) D_law_with.g D_law_with.F.kp D_law_with.b .nil pass0 (pa_cons (pv 1) (pa_cons (pv 4) (pa_cons (pv 6) pa_nil)))) (pa_cons (pe_call G_law_with (hr.mono (by decide)) (by rfl) D_law_with.g D_law_with.F.kp D_law_with.b .nil pass0 (pa_cons (pv 2) (pa_cons (pv 5) (pa_cons (pv 6) pa_nil)))) (pa_cons (pe_lst (pa_cons pe_str (pa_cons (pv 4) pa_nil))) pa_nil)))))) pss_nil)
    (pss_cons (ps_set (i := 7) sc_law_bad_image.nd rfl (.inl rfl) (pe_ix (r := rIxL K) ix_list (pe_lst (pa_cons (pe_callTy (r := rLstQ K) call_lstQ (by rfl) T.b_list (by decide +kernel) (pa_cons (pv 1) pa_nil)) (pa_cons (pe_tup pa_nil) (pa_cons (pe_slice sl_tup (pe_op (r := rCat3 K) op_cat3 (pv 1) (pe_op (r := rRepT K) op_repT (pe_tup (pa_cons (pe_un un_neg pe_int) pa_nil)) pe_int)) po_none (po_some pe_int)) pa_nil)))) (pe_call G_law_take (hr.mono (by decide)) (by rfl) D_law_take.g D_law_take.F.kp D_law_take.b .nil pass0 (pa_cons (pv 0) (pa_cons pe_int pa_nil))) (fun _ _ => rfl)))
    (pss_cons (ps_if (pt_cmpR op_eq (pv 3) pe_int (nomark _)) (pss_one (ps_ret (pe_lst (pa_cons (pv 7) (pa_cons (pv 2) (pa_cons (pe_lst (pa_cons pe_str (pa_cons (pe_un un_neg pe_int) pa_nil))) pa_nil)))))) pss_nil)
    (pss_cons (ps_if (pt_cmpR op_eq (pv 3) pe_int (nomark _)) (pss_one (ps_ret (pe_lst (pa_cons (pv 1) (pa_cons (pv 7) (pa_cons (pe_lst (pa_cons pe_str (pa_cons (pe_un un_neg pe_int) pa_nil))) pa_nil)))))) pss_nil)
    (pss_one (ps_ret (pe_lst (pa_cons (pv 7) (pa_cons (pe_call G_law_with (hr.mono (by decide)) (by rfl) D_law_with.g D_law_with.F.kp D_law_with.b .nil pass0 (pa_cons (pv 2) (pa_cons (pv 4) (pa_cons (pv 6) pa_nil)))) (pa_cons (pe_lst (pa_cons pe_str (pa_cons (pe_un un_neg pe_int) pa_nil))) pa_nil))))))))))))))), ?_⟩
    walk_at "rx"
    refine ⟨B, _, rfl, hB, i0, by omega, by omega, fun H1 t w1 ht => ?_⟩
    have ha1 := ha.wg w1
    walk_at "rx"
    refine ⟨B, _, rfl, hB, w1.i1, by omega, by omega, fun H2 o w2 ho => ?_⟩
    walk_at "rx"
    refine ⟨B, rfl, hB, w2.i1, fun H3 e w3 ne => ?_⟩
    have w03 := (w1.trans w2).trans w3
    have ha3 := ha.wg w03
    have hb3 := hb.wg w03
    have ht2 : t < es.length := by omega
    have ho2 : o < es.length := by omega
    walk_at "rx"
    refine ite2 (fun z => ?_) (fun z => ?_)
    · walk_at "rx"
      refine ⟨a, es, t, e, rfl, ha3, ht2, e12, fun H4 D S4 tD => ?_⟩
      walk_at "rx"
      refine rd_newQ (by simp) fun H5 d S5 nd hd => ?_
      walk_at "rx"
      refine rd_newQ (by simp) fun H6 p S6 np hp => ?_
      exact q H6 p _ _ d sImage t (((w03.same S4).same S5).same S6) hp (S6 _ _ hd) (.inl ⟨rfl, .inl (ib_set ((tD.same S5).same S6) I ht2 ne)⟩)
    walk_at "rx"
    refine ite2 (fun z => ?_) (fun z => ?_)
    · walk_at "rx"
      refine ⟨b, fs, t, e, rfl, hb3, by omega, by omega, fun H4 D S4 tD => ?_⟩
      walk_at "rx"
      refine rd_newQ (by simp) fun H5 d S5 nd hd => ?_
      walk_at "rx"
      refine rd_newQ (by simp) fun H6 p S6 np hp => ?_
      exact q H6 p _ _ d sImage t (((w03.same S4).same S5).same S6) hp (S6 _ _ hd) (.inl ⟨rfl, .inr ⟨es, ⟨a, rfl, ((ha3.same S4).same S5).same S6, I⟩, ib_set ((tD.same S5).same S6) J (by omega) ne⟩⟩)
    walk_at "rx"
    refine ite2 (fun z => ?_) (fun z => ?_)
    · walk_at "rx"
      refine ⟨a, es, t, e, rfl, ha3, ht2, e12, fun H4 D S4 tD => ?_⟩
      have hb4 := hb3.same S4
      walk_at "rx"
      refine ⟨b, fs, o, e, rfl, hb4, by omega, by omega, fun H5 D2 S5 tD2 => ?_⟩
      walk_at "rx"
      refine rd_newQ (by simp) fun H6 d S6 nd hd => ?_
      walk_at "rx"
      refine rd_newQ (by simp) fun H7 p S7 np hp => ?_
      exact q H7 p _ _ d sImage t ((((w03.same S4).same S5).same S6).same S7) hp (S7 _ _ hd) (.inl ⟨rfl, .inl (ib_set (((tD.same S5).same S6).same S7) I ht2 ne)⟩)
    walk_at "rx"
    refine rd_newL fun H4 L S4 nL hL => ?_
    walk_at "rx"
    refine rd_newQ (by simp) fun H5 O S5 nO hO => ?_
    walk_at "rx"
    refine rd_newQ (by simp) fun H6 M S6 nM hM => ?_
    walk_at "rx"
    refine rd_repT (k := 13) hM (by simp) (by decide) (by decide) (by simp) ?_
    refine rd_newL fun H7 R S7 nR hR => ?_
    rw [flat_one, show ((13 : Int)).toNat = 13 from rfl, ← List.map_replicate] at hR
    have tR := TG.of hR
    have ha7 := (((ha3.same S4).same S5).same S6).same S7
    refine rd_cat3O ha7 tR (by rw [List.length_replicate]; omega) fun H8 C S8 tC => ?_
    have lC : (es ++ List.replicate 13 (-1)).length = es.length + 13 := by rw [List.length_append, List.length_replicate]
    walk_at "rx"
    refine rd_slO tC (fun k => by
      have k2 := k.2
      rw [show (13 : Int) = ((13 : Nat) : Int) from rfl, HT.sIx_nat, lC] at k2
      omega) ?_
    refine rd_newL fun H9 X S9 nX hX => ?_
    rw [show (13 : Int) = ((13 : Nat) : Int) from rfl, cutI_to _ (by omega)] at hX
    have tX := TG.of hX
    have lX : ((es ++ List.replicate 13 (-1)).take 13).length = 13 := by rw [List.length_take]; omega
    walk_at "rx"
    refine rd_newQ (by simp) fun H10 O3 S10 nO3 hO3 => ?_
    have S310 := (((((S4.trans S5).trans S6).trans S7).trans S8).trans S9).trans S10
    have w10 := w03.same S310
    have mO3 : O3 ∉ B.m := B.nem (w03.same ((((((S4.trans S5).trans S6).trans S7).trans S8).trans S9))).i1 nO3
    have mL : L ∉ B.m := B.nem w03.i1 nL
    walk_at "rx"
    refine ⟨B, 3, rfl, hB, w10.i1, by decide, by decide, fun H11 c w11 hc => ?_⟩
    have hO11 := w11.lst mO3 hO3
    have hL11 := w11.lst mL (((((((S5.trans S6).trans S7).trans S8).trans S9).trans S10)) _ _ hL)
    have tO11 : TG H11 O [] := ((TG.of (es := []) hO).same (((((S6.trans S7).trans S8).trans S9).trans S10))).wg w11
    have tX11 := (tX.same S10).wg w11
    have ha11 := (ha3.same S310).wg w11
    have hb11 := (hb3.same S310).wg w11
    have w011 := w10.trans w11
    obtain ⟨v, ev, bad⟩ : ∃ v : V, atI [V.ref L, V.ref O, V.ref X] (c : Int) = some v ∧ IB [] H11 v (-1) := by
      have c3 : c = 0 ∨ c = 1 ∨ c = 2 := by omega
      rcases c3 with rfl | rfl | rfl
      · exact ⟨_, rfl, .inl ⟨rfl, .inl ⟨L, _, rfl, List.not_mem_nil, hL11⟩⟩⟩
      · exact ⟨_, rfl, .inl ⟨rfl, .inr ⟨O, _, rfl, tO11, .inl rfl, Nat.zero_le _⟩⟩⟩
      · exact ⟨_, rfl, .inl ⟨rfl, .inr ⟨X, _, rfl, tX11, .inr (by rw [lX]; decide), by rw [lX]; decide⟩⟩⟩
    refine rd_ixL (SqL.of hO11) ev ?_
    walk_at "rx"
    refine ite2 (fun z => ?_) (fun z => ?_)
    · walk_at "rx"
      refine rd_newQ (by simp) fun H12 d S12 nd hd => ?_
      walk_at "rx"
      refine rd_newQ (by simp) fun H13 p S13 np hp => ?_
      exact q H13 p _ _ d sImage (-1) ((w011.same S12).same S13) hp (S13 _ _ hd) (.inl ⟨rfl, .inl ((bad.same S12).same S13)⟩)
    walk_at "rx"
    refine ite2 (fun z => ?_) (fun z => ?_)
    · walk_at "rx"
      refine rd_newQ (by simp) fun H12 d S12 nd hd => ?_
      walk_at "rx"
      refine rd_newQ (by simp) fun H13 p S13 np hp => ?_
      exact q H13 p _ _ d sImage (-1) ((w011.same S12).same S13) hp (S13 _ _ hd) (.inl ⟨rfl, .inr ⟨es, ⟨a, rfl, (ha11.same S12).same S13, I⟩, (bad.same S12).same S13⟩⟩)
    · walk_at "rx"
      refine ⟨b, fs, t, e, rfl, hb11, by omega, by omega, fun H12 D S12 tD => ?_⟩
      walk_at "rx"
      refine rd_newQ (by simp) fun H13 d S13 nd hd => ?_
      walk_at "rx"
      refine rd_newQ (by simp) fun H14 p S14 np hp => ?_
      exact q H14 p _ _ d sImage (-1) (((w011.same S12).same S13).same S14) hp (S14 _ _ hd) (.inl ⟨rfl, .inl (((bad.same S12).same S13).same S14)⟩)
def sp_law_bad (_K : PySem.W.Frag) : Sp := fun vs H Q _ => ∃ (B : Box) (a b : Addr) (es fs : List Int), vs = [.ref B.b, .ref a, .ref b] ∧ IsBk B ∧ B.I H ∧ TG H a es ∧ TG H b fs ∧ Img es ∧ Img fs ∧ Ren es fs ∧
  ∀ H' p v1 v2 d s k, Wg B H H' → H' p = some (.lst [v1, v2, .ref d]) → H' d = some (.lst [.str s, .int k]) → BadC H' v1 v2 s k → Q (.ref p) H'
set_option maxHeartbeats 4000000 in
theorem ok_law_bad (T : Top K mg) {f : Addr} {fd : FuncData} (D : Def K mg "_law_bad" s_law_bad ["box", "before", "after"] f fd) : FnOk P w K mg base CX0 4 f fd ["box", "before", "after"] (sp_law_bad K) := by
  obtain ⟨f_law_take, fd_law_take, D_law_take⟩ := T.d__law_take
  have G_law_take : FnOk P w K mg base CX0 1 f_law_take fd_law_take ["box", "limit"] (sp_law_take K) := ok_law_take T D_law_take
  obtain ⟨f_law_bad_values, fd_law_bad_values, D_law_bad_values⟩ := T.d__law_bad_values
  have G_law_bad_values : FnOk P w K mg base CX0 3 f_law_bad_values fd_law_bad_values ["box", "before", "after", "way"] (sp_law_bad_values K) := ok_law_bad_values T D_law_bad_values
  obtain ⟨f_law_bad_image, fd_law_bad_image, D_law_bad_image⟩ := T.d__law_bad_image
  have G_law_bad_image : FnOk P w K mg base CX0 3 f_law_bad_image fd_law_bad_image ["box", "before", "after", "way"] (sp_law_bad_image K) := ok_law_bad_image T D_law_bad_image
  refine D.F.ok sc_law_bad (fun vs H Q E h => ?_) (fun cdv A outer s H vs Q E hr h => ?_)
  · obtain ⟨B, a, b, es, fs, rfl, _⟩ := h
    rfl
  · obtain ⟨B, a, b, es, fs, rfl, hB, i0, ha, hb, I, J, R, q⟩ := h
    refine ⟨_, (pss_cons (ps_set (i := 3) sc_law_bad.nd rfl (.inl rfl) (pe_call G_law_take (hr.mono (by decide)) (by rfl) D_law_take.g D_law_take.F.kp D_law_take.b .nil pass0 (pa_cons (pv 0) (pa_cons pe_int pa_nil))))
    (pss_cons (ps_if (pt_cmpR op_lt (pv 3) pe_int (nomark _)) (pss_one (ps_ret (pe_call G_law_bad_image hr (by rfl) D_law_bad_image.g D_law_bad_image.F.kp D_law_bad_image.b .nil pass0 (pa_cons (pv 0) (pa_cons (pv 1) (pa_cons (pv 2) (pa_cons (pv 3) pa_nil))))))) pss_nil)
    (pss_one (ps_ret (pe_call G_law_bad_values hr (by rfl) D_law_bad_values.g D_law_bad_values.F.kp D_law_bad_values.b .nil pass0 (pa_cons (pv 0) (pa_cons (pv 1) (pa_cons (pv 2) (pa_cons (pv 3) pa_nil))))))))), ?_⟩
    walk_at "rx"
    refine ⟨B, 11, rfl, hB, i0, by decide, by decide, fun H1 w w1 hw => ?_⟩
    have ha1 := ha.wg w1
    have hb1 := hb.wg w1
    walk_at "rx"
    refine ite2 (fun z => ?_) (fun z => ?_)
    · walk_at "rx"
      exact ⟨B, a, b, es, fs, w, rfl, hB, w1.i1, ha1, hb1, I, J, R.len, fun H' p v1 v2 d s k w2 hp hd bad => q H' p v1 v2 d s k (w1.trans w2) hp hd bad⟩
    · walk_at "rx"
      exact ⟨B, a, b, es, fs, w, rfl, hB, w1.i1, ha1, hb1, I, J, R, fun H' p v1 v2 d s k w2 hp hd bad => q H' p v1 v2 d s k (w1.trans w2) hp hd bad⟩
def sp_law_fires (_K : PySem.W.Frag) : Sp := fun vs H Q _ => ∃ (p x : Addr) (r : Ln) (g : List Int), vs = [.ref p, .ref x] ∧ H p = some (.tup r.vals) ∧ TG H x g ∧ Rg g ∧ g.length ≤ 12 ∧ MvL g.length r ∧ Q (.bl (fir r g)) H
set_option maxHeartbeats 4000000 in
theorem ok_law_fires (T : Top K mg) {f : Addr} {fd : FuncData} (D : Def K mg "_law_fires" s_law_fires ["line", "now"] f fd) : FnOk P w K mg base CX0 2 f fd ["line", "now"] (sp_law_fires K) := by
  obtain ⟨f_law_sign, fd_law_sign, D_law_sign⟩ := T.d__law_sign
  have G_law_sign : FnOk P w K mg base CX0 1 f_law_sign fd_law_sign ["entry"] (sp_law_sign K) := ok_law_sign T D_law_sign
  refine D.F.ok sc_law_fires (fun vs H Q E h => ?_) (fun cdv A outer s H vs Q E hr h => ?_)
  · obtain ⟨p, x, r, g, rfl, _⟩ := h
    rfl
  · obtain ⟨p, x, r, g2, rfl, hp, hx, Rg2, l12, ml, q⟩ := h
    obtain ⟨t, s, gs, rfl, lt, ls, ne, gl⟩ := ml.ex
    have hp : H p = some (.tup [.str sMove, .int (t : Int), .int (s : Int), .str (txt gs)]) := hp
    have gle : gs.length ≤ g2.length := ml.le
    have lc2 := codes_len g2
    have a1 : atI (g2.map V.int) (s : Int) = some (.int (g2.getD s 0)) := atI_ints (by omega) (by omega)
    have en : (txt gs).length = gs.length := by show (txt gs).cps.size = _; simp [txt]
    have hz : (txt gs).length ≤ sizeLine := Nat.le_of_lt (small1000 (by omega))
    refine ⟨_, (pss_cons (ps_if (pt_cmpR op_eq (pe_ix (r := rIxT K) ix_tup (pv 1) (pe_ix (r := rIxT K) ix_tup (pv 0) pe_int (fun _ _ => rfl)) (fun _ _ => rfl)) (pe_un un_neg pe_int) (nomark _)) (pss_one (ps_ret pe_bl)) pss_nil)
    (pss_cons (ps_for PassesOwn.never rfl (pi_range1 (by rfl) T.b_range (pa_cons (pe_callB call_lenZ (by rfl) T.b_len PySem.boot_len (pa_cons (pe_ix (r := rIxT K) ix_tup (pv 0) pe_int (fun _ _ => rfl)) pa_nil)) pa_nil)) (pg_name (i := 2) sc_law_fires.nd rfl (.inl rfl)) (pss_cons (ps_set (i := 3) sc_law_fires.nd rfl (.inl rfl) (pe_ix ix_str (pe_ix (r := rIxT K) ix_tup (pv 0) pe_int (fun _ _ => rfl)) (pv 2) (fun _ _ => rfl)))
    (pss_cons (ps_if (PW.pt (pw_and (pt_cmpR op_eq (pe_ix (r := rIxT K) ix_tup (pv 1) (pv 2) (fun _ _ => rfl)) (pe_un un_neg pe_int) (nomark _)) (pw_and (pt_cmpR op_ne (pv 3) pe_str (nomark _)) (pw_and1 (pt_cmpR op_ne (pv 3) pe_str (nomark _)))))) (pss_one (ps_ret pe_bl)) pss_nil)
    (pss_one (ps_if (PW.pt (pw_and (pt_cmpR op_ne (pe_ix (r := rIxT K) ix_tup (pv 1) (pv 2) (fun _ _ => rfl)) (pe_un un_neg pe_int) (nomark _)) (pw_and (pt_cmpR op_ne (pv 3) pe_str (nomark _)) (pw_and (pt_cmpR op_ne (pv 3) pe_str (nomark _)) (pw_and1 (pt_cmpR op_ne (pv 3) (pe_call G_law_sign hr (by rfl) D_law_sign.g D_law_sign.F.kp D_law_sign.b .nil pass0 (pa_cons (pe_ix (r := rIxT K) ix_tup (pv 1) (pv 2) (fun _ _ => rfl)) pa_nil)) (nomark _))))))) (pss_one (ps_ret pe_bl)) pss_nil)))))
    (pss_one (ps_ret pe_bl)))), ?_⟩
    walk_at "rx"
    by_cases z : g2.getD s 0 = -1
    · rw [decide_eq_true (show V.int (g2.getD s 0) = V.int (-1) by rw [z])]
      rw [fir_no z] at q
      walk_at "rx"
      exact q
    · rw [decide_eq_false (show ¬ V.int (g2.getD s 0) = V.int (-1) from fun w => z (V.int.inj w))]
      have hr1 : -100000 ≤ (((txt gs).length : Nat) : Int) ∧ (((txt gs).length : Nat) : Int) ≤ 100000 := by omega
      walk_at "rx"
      rw [show ((((txt gs).length : Nat) : Int)).toNat = gs.length by omega]
      refine fr_rng0 (fun i σ H' => ∃ (y2 y3 : Option V), σ = [some (.ref p), some (.ref x), y2, y3] ∧ H = H' ∧ ∀ j, j < i → fitC (gs.getD j 0) ((codes g2).getD j 0) = true) ⟨_, _, rfl, rfl, fun j h => absurd h (Nat.not_lt_zero j)⟩ ?_ ?_
      · rintro i σ H1 hi ⟨y2, y3, rfl, eH, old⟩
        subst eH
        have c2 := codes_at (g := g2) (i := i) (by omega)
        have r2 := Rg2 _ (mem_at (l := g2) (i := i) (by omega))
        have he : atI (txt gs).cps.toList (i : Int) = some (gs.getD i 0) := atI_nat (by
          have : gs[i]? = some (gs.getD i 0) := by rw [List.getD_eq_getElem?_getD, List.getElem?_eq_getElem (by omega)]; rfl
          simpa [txt] using this)
        have a2 : atI (g2.map V.int) (i : Int) = some (.int (g2.getD i 0)) := atI_ints (by omega) (by omega)
        have nx : fitC (gs.getD i 0) ((codes g2).getD i 0) = true → ∀ j, j < i + 1 → fitC (gs.getD j 0) ((codes g2).getD j 0) = true := fun e j h => by
          by_cases k : j < i
          · exact old j k
          · rw [show j = i by omega]; exact e
        have no : fitC (gs.getD i 0) ((codes g2).getD i 0) = false → fir ⟨sMove, (t : Int), (s : Int), gs⟩ g2 = false := fun e => fir_bad gle hi e
        have sg48 : g2.getD i 0 ≠ -1 → sg (g2.getD i 0) ≠ 46 := fun n k => n ((sg_46 r2).mp k)
        walk_at "rx"
        generalize gs.getD i 0 = m at *
        rw [c2] at nx no
        unfold fitC at nx no
        by_cases y : g2.getD i 0 = -1
        · have s2 := (sg_46 r2).mpr y
          rw [s2] at nx no
          rw [decide_eq_true (show V.int (g2.getD i 0) = V.int (-1) by rw [y])]
          walk_at "rx"
          by_cases k : m = 46
          · rw [decide_eq_true (show V.str ⟨#[m]⟩ = V.str (Str.ofString ".") by rw [k]; rfl)]
            walk_at "rx"
            rw [decide_eq_true (show V.int (g2.getD i 0) = V.int (-1) by rw [y])]
            walk_at "rx"
            exact ⟨_, _, rfl, rfl, nx (by rw [k]; decide)⟩
          · rw [decide_eq_false (show ¬ V.str ⟨#[m]⟩ = V.str (Str.ofString ".") from fun w => k (sgn_inj (b := 46) (V.str.inj w)))]
            walk_at "rx"
            by_cases k2 : m = 45
            · rw [decide_eq_true (show V.str ⟨#[m]⟩ = V.str (Str.ofString "-") by rw [k2]; rfl)]
              walk_at "rx"
              rw [decide_eq_true (show V.int (g2.getD i 0) = V.int (-1) by rw [y])]
              walk_at "rx"
              exact ⟨_, _, rfl, rfl, nx (by rw [if_pos k2])⟩
            · rw [decide_eq_false (show ¬ V.str ⟨#[m]⟩ = V.str (Str.ofString "-") from fun w => k2 (sgn_inj (b := 45) (V.str.inj w)))]
              rw [no (by rw [if_neg k2]; split <;> simp [k])] at q
              walk_at "rx"
              exact q
        · have n46 := sg48 y
          rw [decide_eq_false (show ¬ V.int (g2.getD i 0) = V.int (-1) from fun w => y (V.int.inj w))]
          walk_at "rx"
          rw [decide_eq_false (show ¬ V.int (g2.getD i 0) = V.int (-1) from fun w => y (V.int.inj w))]
          walk_at "rx"
          by_cases k : m = 42
          · rw [decide_eq_true (show V.str ⟨#[m]⟩ = V.str (Str.ofString "*") by rw [k]; rfl)]
            walk_at "rx"
            exact ⟨_, _, rfl, rfl, nx (by rw [if_neg (by omega), if_pos k, decide_eq_false n46]; rfl)⟩
          rw [decide_eq_false (show ¬ V.str ⟨#[m]⟩ = V.str (Str.ofString "*") from fun w => k (sgn_inj (b := 42) (V.str.inj w)))]
          walk_at "rx"
          by_cases k2 : m = 45
          · rw [decide_eq_true (show V.str ⟨#[m]⟩ = V.str (Str.ofString "-") by rw [k2]; rfl)]
            walk_at "rx"
            exact ⟨_, _, rfl, rfl, nx (by rw [if_pos k2])⟩
          rw [decide_eq_false (show ¬ V.str ⟨#[m]⟩ = V.str (Str.ofString "-") from fun w => k2 (sgn_inj (b := 45) (V.str.inj w)))]
          walk_at "rx"
          refine ⟨_, rfl, r2.1, r2.2, ?_⟩
          rw [sgS_one r2]
          walk_at "rx"
          by_cases k3 : m = sg (g2.getD i 0)
          · rw [decide_eq_true (show V.str ⟨#[m]⟩ = V.str (one (sg (g2.getD i 0))) by rw [k3]; rfl)]
            walk_at "rx"
            exact ⟨_, _, rfl, rfl, nx (by rw [if_neg k2, if_neg k]; exact decide_eq_true k3)⟩
          · rw [decide_eq_false (show ¬ V.str ⟨#[m]⟩ = V.str (one (sg (g2.getD i 0))) from fun w => k3 (sgn_inj (V.str.inj w)))]
            rw [no (by rw [if_neg k2, if_neg k]; exact decide_eq_false k3)] at q
            walk_at "rx"
            exact q
      · rintro σ H1 ⟨y2, y3, rfl, eH, old⟩
        subst eH
        rw [fir_yes gle z old] at q
        walk_at "rx"
        exact q
def sp_law_after_line (_K : PySem.W.Frag) : Sp := fun vs H Q _ => ∃ (p x : Addr) (r : Ln) (g : List Int), vs = [.ref p, .ref x] ∧ H p = some (.tup r.vals) ∧ GT H x g ∧ Rg g ∧ g.length ≤ 12 ∧ MvL g.length r ∧ ∀ H' y, Same H H' → GT H' y (stp g r) → Q (.ref y) H'
set_option maxHeartbeats 4000000 in
theorem ok_law_after_line (T : Top K mg) {f : Addr} {fd : FuncData} (D : Def K mg "_law_after_line" s_law_after_line ["line", "now"] f fd) : FnOk P w K mg base CX0 3 f fd ["line", "now"] (sp_law_after_line K) := by
  obtain ⟨f_law_fires, fd_law_fires, D_law_fires⟩ := T.d__law_fires
  have G_law_fires : FnOk P w K mg base CX0 2 f_law_fires fd_law_fires ["line", "now"] (sp_law_fires K) := ok_law_fires T D_law_fires
  refine D.F.ok sc_law_after_line (fun vs H Q E h => ?_) (fun cdv A outer s H vs Q E hr h => ?_)
  · obtain ⟨p, x, r, g, rfl, _⟩ := h
    rfl
  · obtain ⟨p, x, r, g2, rfl, hp, gx, Rg2, l12, ml, q⟩ := h
    have hx : TG H x g2 := .inr gx
    refine ⟨_, (pss_cons (ps_if (pt_not (pt_val (pe_call G_law_fires hr (by rfl) D_law_fires.g D_law_fires.F.kp D_law_fires.b .nil pass0 (pa_cons (pv 0) (pa_cons (pv 1) pa_nil))))) (pss_one (ps_ret (pv 1))) pss_nil)
    (pss_cons (ps_set (i := 2) sc_law_after_line.nd rfl (.inl rfl) (pe_callTy (r := rLstQ K) call_lstQ (by rfl) T.b_list (by decide +kernel) (pa_cons (pv 1) pa_nil)))
    (pss_cons (ps_asg (pe_ix (r := rIxL K) ix_list (pv 2) (pe_ix (r := rIxT K) ix_tup (pv 0) pe_int (fun _ _ => rfl)) (fun _ _ => rfl)) (pg_sub (pv 2) (pe_ix (r := rIxT K) ix_tup (pv 0) pe_int (fun _ _ => rfl)) set_list))
    (pss_cons (ps_asg (pe_un un_neg pe_int) (pg_sub (pv 2) (pe_ix (r := rIxT K) ix_tup (pv 0) pe_int (fun _ _ => rfl)) set_list))
    (pss_one (ps_ret (pe_callTy (r := rTupF K) call_tupF (by rfl) T.b_tuple (by decide +kernel) (pa_cons (pv 2) pa_nil)))))))), ?_⟩
    walk_at "rx"
    refine ⟨p, x, r, g2, rfl, hp, hx, Rg2, l12, ml, ?_⟩
    obtain ⟨t, s, gs, rfl, lt, ls, ne, gl⟩ := ml.ex
    have hp : H p = some (.tup [.str sMove, .int (t : Int), .int (s : Int), .str (txt gs)]) := hp
    rw [stp_if] at q
    by_cases e : fir ⟨sMove, (t : Int), (s : Int), gs⟩ g2 = true
    · rw [e]
      rw [if_pos e] at q
      walk_at "rx"
      refine rd_newL fun H1 L S1 nL hL => ?_
      have hp1 := S1 _ _ hp
      have pL : p ≠ L := fun k => by rw [k, hL] at hp1; cases hp1
      have at2 : atI (g2.map V.int) (s : Int) = some (.int (g2.getD s 0)) := atI_ints (by omega) (by omega)
      have ix1 : ixN (g2.map V.int).length (t : Int) = some t := ixN_of (by omega) (by rw [List.length_map]; omega)
      have ix2 : ixN ((g2.map V.int).set t (V.int (g2.getD s 0))).length (s : Int) = some s := ixN_of (by omega) (by rw [List.length_set, List.length_map]; omega)
      walk_at "rx"
      rw [set_mv]
      refine rd_tupF upd_same fun H2 y S2 ny gy => ?_
      exact q H2 y ((same_mut (same_mut S1 nL) nL).trans S2) gy
    · rw [show fir ⟨sMove, (t : Int), (s : Int), gs⟩ g2 = false from Bool.eq_false_iff.mpr e]
      rw [if_neg e] at q
      walk_at "rx"
      exact q _ _ (Same.refl _) gx
def sp_law_mark (_K : PySem.W.Frag) : Sp := fun vs H Q _ => ∃ (B : Box) (e : Int) (way : Nat), vs = [.ref B.b, .int e, .int (way : Int)] ∧ IsBk B ∧ B.I H ∧ -1 ≤ e ∧ e ≤ 999 ∧ way ≤ 100 ∧ ∀ H' c, Wg B H H' → c < 128 → Q (.str (one c)) H'
set_option maxHeartbeats 4000000 in
theorem ok_law_mark (T : Top K mg) {f : Addr} {fd : FuncData} (D : Def K mg "_law_mark" s_law_mark ["box", "entry", "way"] f fd) : FnOk P w K mg base CX0 2 f fd ["box", "entry", "way"] (sp_law_mark K) := by
  obtain ⟨f_law_sign, fd_law_sign, D_law_sign⟩ := T.d__law_sign
  have G_law_sign : FnOk P w K mg base CX0 1 f_law_sign fd_law_sign ["entry"] (sp_law_sign K) := ok_law_sign T D_law_sign
  obtain ⟨f_law_take, fd_law_take, D_law_take⟩ := T.d__law_take
  have G_law_take : FnOk P w K mg base CX0 1 f_law_take fd_law_take ["box", "limit"] (sp_law_take K) := ok_law_take T D_law_take
  refine D.F.ok sc_law_mark (fun vs H Q E h => ?_) (fun cdv A outer s H vs Q E hr h => ?_)
  · obtain ⟨B, e, way, rfl, _⟩ := h
    rfl
  · obtain ⟨B, e, way, rfl, hB, i0, e1, e2, w100, q⟩ := h
    refine ⟨_, (pss_cons (ps_set (i := 3) sc_law_mark.nd rfl (.inl rfl) pe_int)
    (C8.pss_cut (ps_if (pt_cmpR op_gt (pv 2) pe_int (nomark _)) (pss_one (ps_set (i := 3) sc_law_mark.nd rfl (.inl rfl) (pe_call G_law_take hr (by rfl) D_law_take.g D_law_take.F.kp D_law_take.b .nil pass0 (pa_cons (pv 0) (pa_cons pe_int pa_nil))))) pss_nil)
    (pss_cons (ps_if (PW.pt (pw_and (pt_cmpR op_eq (pv 2) pe_int (nomark _)) (pw_and1 (pt_cmpR op_gt (pv 3) pe_int (nomark _))))) (pss_one (ps_ret (pe_ix ix_str pe_str (pe_call G_law_take hr (by rfl) D_law_take.g D_law_take.F.kp D_law_take.b .nil pass0 (pa_cons (pv 0) (pa_cons pe_int pa_nil))) (fun _ _ => rfl)))) pss_nil)
    (pss_cons (ps_if (PW.pt (pw_and (pt_cmpR op_gt (pv 3) pe_int (nomark _)) (pw_and1 (pt_cmpR op_le (pv 3) (pv 2) (nomark _))))) (pss_one (ps_ret pe_str)) pss_nil)
    (pss_cons (ps_if (PW.pt (pw_and (pt_cmpR op_eq (pv 2) pe_int (nomark _)) (pw_and (pt_cmpR op_eq (pv 3) pe_int (nomark _)) (pw_and1 (pt_cmpR op_ne (pv 1) (pe_un un_neg pe_int) (nomark _)))))) (pss_one (ps_ret pe_str)) pss_nil)
    (pss_one (ps_ret (pe_call G_law_sign hr (by rfl) D_law_sign.g D_law_sign.F.kp D_law_sign.b .nil pass0 (pa_cons (pv 1) pa_nil))))))))), ?_⟩
    walk_at "rx"
    refine ⟨fun σ' H' => ∃ pick : Nat, σ' = [some (.ref B.b), some (.int e), some (.int (way : Int)), some (.int (pick : Int))] ∧ Wg B H H' ∧ pick < 6, ?_, ?_⟩
    · walk_at "rx"
      by_cases z : (way : Int) > 0
      · rw [decide_eq_true z]
        walk_at "rx"
        refine ⟨B, 6, rfl, hB, i0, by decide, by decide, fun H1 d w1 hd => ?_⟩
        walk_at "rx"
        exact ⟨d, rfl, w1, by omega⟩
      · rw [decide_eq_false z]
        walk_at "rx"
        exact ⟨0, rfl, Wg.refl i0, by decide⟩
    rintro σ' H1 ⟨pick, rfl, w1, p6⟩
    have last : ∀ {H'}, Wg B H H' → tRet (tCall (sp_law_sign K) [] E0 (tCons (tVar 1) tNil)) { nx := fun x H' => Q V.non H', rt := Q } [some (V.ref B.b), some (V.int e), some (V.int (way : Int)), some (V.int (pick : Int))] H' := fun {H'} w => by
      walk_at "rx"
      refine ⟨_, rfl, e1, e2, ?_⟩
      rw [sgS_one ⟨e1, e2⟩]
      exact q _ _ w (by
        unfold sg
        split
        · decide
        · have := kind_small (e := e) (by omega) e2; omega)
    have mid : ∀ {H'}, Wg B H H' → tSeq (tIfS (tAnd (tTest (tOp (rI0 fun i j => V.bl (decide (j < i))) (tVar 3) (tC (V.int 0)))) (tTest (tOp (rI0 fun i j => V.bl (decide (i ≤ j))) (tVar 3) (tVar 2)))) (tRet (tC (V.str (Str.ofString "-")))) tNext) (tSeq (tIfS (tAnd (tTest (tOp rEq (tVar 2) (tC (V.int 2)))) (tAnd (tTest (tOp rEq (tVar 3) (tC (V.int 3)))) (tTest (tOp rNe (tVar 1) (tUn (rU fun i => V.int (-i)) (tC (V.int 1))))))) (tRet (tC (V.str (Str.ofString "*")))) tNext) (tRet (tCall (sp_law_sign K) [] E0 (tCons (tVar 1) tNil)))) { nx := fun x H' => Q V.non H', rt := Q } [some (V.ref B.b), some (V.int e), some (V.int (way : Int)), some (V.int (pick : Int))] H' := fun {H'} w => by
      have fin2 : tSeq (tIfS (tAnd (tTest (tOp rEq (tVar 2) (tC (V.int 2)))) (tAnd (tTest (tOp rEq (tVar 3) (tC (V.int 3)))) (tTest (tOp rNe (tVar 1) (tUn (rU fun i => V.int (-i)) (tC (V.int 1))))))) (tRet (tC (V.str (Str.ofString "*")))) tNext) (tRet (tCall (sp_law_sign K) [] E0 (tCons (tVar 1) tNil))) { nx := fun x H' => Q V.non H', rt := Q } [some (V.ref B.b), some (V.int e), some (V.int (way : Int)), some (V.int (pick : Int))] H' := by
        have lst := last w
        walk_at "rx"
        refine ite2 (fun z => ?_) (fun z => ?_)
        · walk_at "rx"
          refine ite2 (fun z2 => ?_) (fun z2 => ?_)
          · walk_at "rx"
            refine ite2 (fun z3 => ?_) (fun z3 => ?_)
            · walk_at "rx"
              exact q _ 42 w (by decide)
            · exact lst
          · exact lst
        · exact lst
      walk_at "rx"
      refine ite2 (fun z => ?_) (fun z => ?_)
      · walk_at "rx"
        refine ite2 (fun z2 => ?_) (fun z2 => ?_)
        · walk_at "rx"
          exact q _ 45 w (by decide)
        · exact fin2
      · exact fin2
    walk_at "rx"
    refine ite2 (fun z => ?_) (fun z => ?_)
    · walk_at "rx"
      refine ite2 (fun z2 => ?_) (fun z2 => ?_)
      · walk_at "rx"
        refine ⟨B, 13, rfl, hB, w1.i1, by decide, by decide, fun H2 d w2 hd => ?_⟩
        obtain ⟨c, hc, c128⟩ := mk13 (d := d) (by omega)
        have hz : (Str.ofString "-.*0123456789").length ≤ sizeLine := by decide
        walk_at "rx"
        exact q _ c (w1.trans w2) c128
      · exact mid w1
    · exact mid w1
def sp_law_guard (_K : PySem.W.Frag) : Sp := fun vs H Q _ => ∃ (B : Box) (a : Addr) (g : List Int) (t way : Nat), vs = [.ref B.b, .ref a, .int (t : Int), .int (way : Int)] ∧ IsBk B ∧ B.I H ∧ GT H a g ∧ Rg g ∧ g.length ≤ 12 ∧ t < g.length ∧ way ≤ 100 ∧ ∀ H' gs, Wg B H H' → gs.length = g.length → gs.getD t 0 = 46 → (∀ c ∈ gs, c < 128) → Q (.str (txt gs)) H'
set_option maxHeartbeats 4000000 in
theorem ok_law_guard (T : Top K mg) {f : Addr} {fd : FuncData} (D : Def K mg "_law_guard" s_law_guard ["box", "now", "target", "way"] f fd) : FnOk P w K mg base CX0 3 f fd ["box", "now", "target", "way"] (sp_law_guard K) := by
  obtain ⟨f_law_mark, fd_law_mark, D_law_mark⟩ := T.d__law_mark
  have G_law_mark : FnOk P w K mg base CX0 2 f_law_mark fd_law_mark ["box", "entry", "way"] (sp_law_mark K) := ok_law_mark T D_law_mark
  refine D.F.ok sc_law_guard (fun vs H Q E h => ?_) (fun cdv A outer s H vs Q E hr h => ?_)
  · obtain ⟨B, a, g, t, way, rfl, _⟩ := h
    rfl
  · obtain ⟨B, a, g, t, way, rfl, hB, i0, ga, Rg1, g12, lt, w100, q⟩ := h
    have hr2 : -100000 ≤ ((g.length : Nat) : Int) ∧ ((g.length : Nat) : Int) ≤ 100000 := by omega
    refine ⟨_, (pss_cons (ps_set (i := 4) sc_law_guard.nd rfl (.inr rfl) (pe_lc (own := [("at", 5)]) (g := gName 5) (tt := tYes) rfl sc_law_guard.nd (pi_range1 (by rfl) T.b_range (pa_cons (pe_callB (r := rLenQ K) call_lenQ (by rfl) T.b_len PySem.boot_len (pa_cons (pv 1) pa_nil)) pa_nil))
      (blkOk_by (own := [("at", 5)]) (N := ["box", "now", "target", "way", "marks", "at"]) (sc := defScope s_law_guard) (by decide +kernel)) (fun _ _ _ _ _ => (pg_name (i := 5) sc_law_guard.nd rfl (.inl rfl))) (fun _ _ _ _ _ => pts_nil)
      (fun _ _ _ _ _ => (pe_call G_law_mark hr (by rfl) D_law_mark.g D_law_mark.F.kp D_law_mark.b .nil pass0 (pa_cons (pv 0) (pa_cons (pe_ix (r := rIxT K) ix_tup (pv 1) (pv 5) (fun _ _ => rfl)) (pa_cons (pv 3) pa_nil)))))))
    (pss_one (ps_ret (pe_join pe_str (pe_lc (own := [("at", 5)]) (g := gName 5) (tt := tYes) rfl sc_law_guard.nd (pi_range1 (by rfl) T.b_range (pa_cons (pe_callB (r := rLenQ K) call_lenQ (by rfl) T.b_len PySem.boot_len (pa_cons (pv 1) pa_nil)) pa_nil))
      (blkOk_by (own := [("at", 5)]) (N := ["box", "now", "target", "way", "marks", "at"]) (sc := defScope s_law_guard) (by decide +kernel)) (fun _ _ _ _ _ => (pg_name (i := 5) sc_law_guard.nd rfl (.inl rfl))) (fun _ _ _ _ _ => pts_nil)
      (fun _ _ _ _ _ => (pe_ifExp (pt_cmpR op_eq (pv 5) (pv 2) (nomark _)) pe_str (pe_ix (r := rIxL K) ix_list (pv 4) (pv 5) (fun _ _ => rfl))))))))), ?_⟩
    walk_at "rx"
    rw [show (((g.length : Nat) : Int)).toNat = g.length by omega]
    refine lc_wg walk_rng i0 (fun i acc _ => ∃ cs : List Nat, acc = cs.map (fun c => V.str (one c)) ∧ cs.length = i ∧ i ≤ 12 ∧ ∀ c ∈ cs, c < 128) (fun _ _ => ⟨[], rfl, rfl, by decide, fun c hc => nomatch hc⟩) (fun _ _ _ _ _ p => p) (fun i acc H' p => by obtain ⟨cs, rfl, e, e2, _⟩ := p; rw [List.length_map]; omega) (fun _ _ => trivial) ?_ ?_
    · rintro i x H5 H6 acc Qc R hi w5 ⟨cs, rfl, e, e2, e3⟩ ⟨eH, rfl⟩ qc rc
      subst eH
      have g5 := ga.wg w5
      have ai : atI (g.map V.int) (i : Int) = some (.int (g.getD i 0)) := atI_ints (by omega) (by omega)
      have ri := Rg1 _ (mem_at hi)
      walk_at "rx"
      refine ⟨rfl, ?_⟩
      walk_at "rx"
      refine ⟨B, g.getD i 0, way, rfl, hB, w5.i1, ri.1, ri.2, w100, fun H7 c w7 c128 => ?_⟩
      exact qc _ _ w7 ⟨cs ++ [c], by rw [List.map_append]; rfl, by rw [List.length_append, e]; rfl, by omega, fun y hy => (List.mem_append.mp hy).elim (e3 y) fun k => by rw [List.mem_singleton.mp k]; exact c128⟩
    intro H1 D acc w1 nD hD pp
    obtain ⟨cs, rfl, e, _, e3⟩ := pp
    have g1 := ga.wg w1
    walk_at "rx"
    rw [show (((g.length : Nat) : Int)).toNat = g.length by omega]
    refine lc_map walk_rng ((cs.set t 46).map fun c => V.str (one c)) ?_ ?_ (fun _ _ => trivial) ?_ ?_
    · rw [List.length_map, List.length_set, e]
    · omega
    · rintro i x H2 H3 Qc R hi S ⟨rfl, rfl⟩ qc
      have hD2 := S _ _ hD
      have ax := ones_at (cs := cs) (i := i) (by omega)
      have out : ∀ c, (cs.set t 46).getD i 0 = c → ((cs.set t 46).map fun c => V.str (one c))[i]? = some (V.str (one c)) := fun c hc => by
        rw [List.getElem?_map, List.getElem?_eq_getElem (by rw [List.length_set]; omega)]
        rw [List.getD_eq_getElem?_getD, List.getElem?_eq_getElem (by rw [List.length_set]; omega)] at hc
        rw [← hc]; rfl
      walk_at "rx"
      refine ⟨rfl, ?_⟩
      walk_at "rx"
      by_cases z : i = t
      · rw [decide_eq_true (show V.int (i : Int) = V.int (t : Int) by rw [z])]
        walk_at "rx"
        exact qc _ _ (Same.refl _) (out 46 (by rw [List.getD_eq_getElem?_getD, z, List.getElem?_set_self (by omega)]; rfl))
      · rw [decide_eq_false (show ¬ V.int (i : Int) = V.int (t : Int) from fun w => z (by have := V.int.inj w; omega))]
        walk_at "rx"
        exact qc _ _ (Same.refl _) (out _ (by rw [List.getD_eq_getElem?_getD, List.getElem?_set_ne (fun k => z k.symm), List.getD_eq_getElem?_getD]))
    · intro H2 E S nE hE
      walk_at "rx"
      refine ⟨_, E, (cs.set t 46).map one, rfl, rfl, .inl (SqL.of (by rw [List.map_map]; exact hE)), ?_, ?_⟩
      · rw [ones_sum, List.length_map, List.length_set, e]
        show g.length + g.length * 0 ≤ _
        omega
      · rw [join_sg]
        exact q _ _ (w1.same S) (by rw [List.length_set, e]) (by rw [List.getD_eq_getElem?_getD, List.getElem?_set_self (by omega)]; rfl) (fun c hc => (List.mem_or_eq_of_mem_set hc).elim (e3 c) fun k => by rw [k]; decide)
def sp_law_careful (_K : PySem.W.Frag) : Sp := fun vs H Q _ => ∃ (B : Box) (a : Addr) (es : List Int) (many way : Nat), vs = [.ref B.b, .ref a, .int (many : Int), .int (way : Int)] ∧ IsBk B ∧ B.I H ∧ GT H a es ∧ Img es ∧ many ≤ 60 ∧ way ≤ 100 ∧ ∀ H' l L, Wg B H H' → H l = none → LsAt H' l L → L.length ≤ 60 → (∀ r ∈ L, CaL es.length r ∧ ∀ c ∈ r.g, c < 128) → Q (.ref l) H'
set_option maxHeartbeats 4000000 in
theorem ok_law_careful (T : Top K mg) {f : Addr} {fd : FuncData} (D : Def K mg "_law_careful" s_law_careful ["box", "image", "many", "way"] f fd) : FnOk P w K mg base CX0 4 f fd ["box", "image", "many", "way"] (sp_law_careful K) := by
  obtain ⟨f_law_after_line, fd_law_after_line, D_law_after_line⟩ := T.d__law_after_line
  have G_law_after_line : FnOk P w K mg base CX0 3 f_law_after_line fd_law_after_line ["line", "now"] (sp_law_after_line K) := ok_law_after_line T D_law_after_line
  obtain ⟨f_law_take, fd_law_take, D_law_take⟩ := T.d__law_take
  have G_law_take : FnOk P w K mg base CX0 1 f_law_take fd_law_take ["box", "limit"] (sp_law_take K) := ok_law_take T D_law_take
  obtain ⟨f_law_guard, fd_law_guard, D_law_guard⟩ := T.d__law_guard
  have G_law_guard : FnOk P w K mg base CX0 3 f_law_guard fd_law_guard ["box", "now", "target", "way"] (sp_law_guard K) := ok_law_guard T D_law_guard
  refine D.F.ok sc_law_careful (fun vs H Q E h => ?_) (fun cdv A outer s H vs Q E hr h => ?_)
  · obtain ⟨B, a, es, many, way, rfl, _⟩ := h
    rfl
  · obtain ⟨B, a, es, many, way, rfl, hB, i0, ha, I, m60, w100, q⟩ := h
    have hr1 : -100000 ≤ (many : Int) ∧ (many : Int) ≤ 100000 := by omega
    refine ⟨_, (pss_cons (ps_set (i := 4) sc_law_careful.nd rfl (.inl rfl) (pe_lst pa_nil))
    (pss_cons (ps_set (i := 5) sc_law_careful.nd rfl (.inr rfl) (pv 1))
    (pss_cons (ps_for PassesOwn.never rfl (pi_range1 (by rfl) T.b_range (pa_cons (pv 2) pa_nil)) (pg_name (i := 6) sc_law_careful.nd rfl (.inl rfl)) (pss_cons (ps_setLc (i := 7) (own := [("at", 11)]) (g := gName 11) (tt := _) rfl sc_law_careful.nd rfl rfl (sw_true rfl rfl rfl (by decide +kernel)) (pi_range1 (by rfl) T.b_range (pa_cons (pe_callB (r := rLenQ K) call_lenQ (by rfl) T.b_len PySem.boot_len (pa_cons (pv 5) pa_nil)) pa_nil))
      (blkOk_by (own := [("at", 11)]) (N := ["box", "image", "many", "way", "lines", "now", "turn", "empty", "full", "target", "source", "at"]) (sc := defScope s_law_careful) (by decide +kernel)) (fun _ _ _ _ _ => (pg_name (i := 11) sc_law_careful.nd rfl (.inl rfl))) (fun _ _ _ _ _ => pts_one (pt_cmpR op_eq (pe_ix (r := rIxT K) ix_tup (pv 5) (pv 11) (fun _ _ => rfl)) (pe_un un_neg pe_int) (nomark _)))
      (fun _ _ _ _ _ => (pv 11)))
    (pss_cons (ps_setLc (i := 8) (own := [("at", 11)]) (g := gName 11) (tt := _) rfl sc_law_careful.nd rfl rfl (sw_true rfl rfl rfl (by decide +kernel)) (pi_range1 (by rfl) T.b_range (pa_cons (pe_callB (r := rLenQ K) call_lenQ (by rfl) T.b_len PySem.boot_len (pa_cons (pv 5) pa_nil)) pa_nil))
      (blkOk_by (own := [("at", 11)]) (N := ["box", "image", "many", "way", "lines", "now", "turn", "empty", "full", "target", "source", "at"]) (sc := defScope s_law_careful) (by decide +kernel)) (fun _ _ _ _ _ => (pg_name (i := 11) sc_law_careful.nd rfl (.inl rfl))) (fun _ _ _ _ _ => pts_one (pt_cmpR op_ne (pe_ix (r := rIxT K) ix_tup (pv 5) (pv 11) (fun _ _ => rfl)) (pe_un un_neg pe_int) (nomark _)))
      (fun _ _ _ _ _ => (pv 11)))
    (pss_cons (ps_if (PW.pt (pw_or (pt_cmpR (op_eqD hr.units) (pv 7) (pe_lst pa_nil) (nomark _)) (pw_or1 (pt_cmpR (op_eqD hr.units) (pv 8) (pe_lst pa_nil) (nomark _))))) (pss_one (ps_ret (pv 4))) pss_nil)
    (pss_cons (ps_set (i := 9) sc_law_careful.nd rfl (.inl rfl) (pe_ix (r := rIxL K) ix_list (pv 7) (pe_call G_law_take (hr.mono (by decide)) (by rfl) D_law_take.g D_law_take.F.kp D_law_take.b .nil pass0 (pa_cons (pv 0) (pa_cons (pe_callB (r := rLenQ K) call_lenQ (by rfl) T.b_len PySem.boot_len (pa_cons (pv 7) pa_nil)) pa_nil))) (fun _ _ => rfl)))
    (pss_cons (ps_set (i := 10) sc_law_careful.nd rfl (.inl rfl) (pe_ix (r := rIxL K) ix_list (pv 8) (pe_call G_law_take (hr.mono (by decide)) (by rfl) D_law_take.g D_law_take.F.kp D_law_take.b .nil pass0 (pa_cons (pv 0) (pa_cons (pe_callB (r := rLenQ K) call_lenQ (by rfl) T.b_len PySem.boot_len (pa_cons (pv 8) pa_nil)) pa_nil))) (fun _ _ => rfl)))
    (pss_cons (ps_expr (pe_bm PySem.F.plainAttrs_list PySem.F.slot_list_append PySem.F.type_list_append mt_append (pv 4) (pa_cons (pe_tup (pa_cons pe_str (pa_cons (pv 9) (pa_cons (pv 10) (pa_cons (pe_call G_law_guard hr (by rfl) D_law_guard.g D_law_guard.F.kp D_law_guard.b .nil pass0 (pa_cons (pv 0) (pa_cons (pv 5) (pa_cons (pv 9) (pa_cons (pv 3) pa_nil))))) pa_nil))))) pa_nil)))
    (pss_one (ps_set (i := 5) sc_law_careful.nd rfl (.inr rfl) (pe_call G_law_after_line hr (by rfl) D_law_after_line.g D_law_after_line.F.kp D_law_after_line.b .nil pass0 (pa_cons (pe_ix (r := rIxL K) ix_list (pv 4) (pe_un un_neg pe_int) (fun _ _ => rfl)) (pa_cons (pv 5) pa_nil))))))))))))
    (pss_one (ps_ret (pv 4)))))), ?_⟩
    walk_at "rx"
    refine rd_newQ (by simp) fun H3 L S3 nL hL => ?_
    have ha3 := ha.same S3
    have w3 := (Wg.refl i0).same S3
    have mL : L ∉ B.m := B.nem i0 nL
    walk_at "rx"
    rw [show ((many : Int)).toNat = many by omega]
    refine fr_rng0 (fun i σ H' => ∃ (x : Addr) (g : List Int) (as : List Addr) (rs : List Ln) (y6 y7 y8 y9 y10 y11 : Option V), σ = [some (.ref B.b), some (.ref a), some (.int (many : Int)), some (.int (way : Int)), some (.ref L), some (.ref x), y6, y7, y8, y9, y10, y11] ∧ Wg B H H' ∧ GT H' x g ∧ Img g ∧ g.length = es.length ∧ H' L = some (.lst (as.map V.ref)) ∧ TupsAt H' as (rows rs) ∧ rs.length ≤ i ∧ ∀ r ∈ rs, CaL es.length r ∧ ∀ c ∈ r.g, c < 128) ⟨a, es, [], [], _, _, _, _, _, _, rfl, w3, ha3, I, rfl, hL, TupsAt.nil, Nat.zero_le _, fun r hr => nomatch hr⟩ ?_ ?_
    · rintro i σ Ha hi ⟨x, g, as, rs, y6, y7, y8, y9, y10, y11, rfl, wa, gx, Ig, lg, hLa, tp, ri, ok⟩
      have tx : TG Ha x g := .inr gx
      have g12 := Ig.2.1
      have hr2 : -100000 ≤ ((g.length : Nat) : Int) ∧ ((g.length : Nat) : Int) ≤ 100000 := by omega
      have fin : ∀ {H9 : Hp}, Wg B H H9 → H9 L = some (.lst (as.map V.ref)) → TupsAt H9 as (rows rs) → Q (.ref L) H9 := fun w9 h9 t9 => q _ L rs w9 nL ⟨as, h9, t9⟩ (by omega) ok
      walk_at "rx"
      rw [show (((g.length : Nat) : Int)).toNat = g.length by omega]
      refine lc_acc walk_rng (fun i acc => acc = nvs (empP g i)) rfl (fun i acc hi e => by have := empP_len g i; rw [e, nvs_len]; omega) (fun _ _ => trivial) ?_ ?_
      · rintro i x Hx Hy acc Qc R2 hi Sx e ⟨rfl, rfl⟩ qc rc
        have hbx := tx.same Sx
        have ai : atI (g.map V.int) (i : Int) = some (.int (g.getD i 0)) := atI_ints (by omega) (by omega)
        have nx : empP g (i + 1) = empP g i ++ if (decide (V.int (g.getD i 0) = V.int (-1))) = true then [i] else [] := fr_next (p := fun k => decide (V.int (g.getD k 0) = V.int (-1))) i
        walk_at "rx"
        refine ⟨rfl, ?_⟩
        walk_at "rx"
        refine ite2 (fun z => ?_) (fun z => ?_)
        · walk_at "rx"
          refine qc _ _ (Same.refl _) ?_
          rw [nx, if_pos z, nvs_app, e]
          rfl
        · refine rc _ (Same.refl _) ?_
          rw [nx, if_neg z, List.append_nil]
          exact e
      intro Hb E acc Sb nE hE e
      subst e
      have txb := tx.same Sb
      walk_at "rx"
      rw [show (((g.length : Nat) : Int)).toNat = g.length by omega]
      refine lc_acc walk_rng (fun i acc => acc = nvs (fulP g i)) rfl (fun i acc hi e => by have := fulP_len g i; rw [e, nvs_len]; omega) (fun _ _ => trivial) ?_ ?_
      · rintro i x Hx Hy acc Qc R2 hi Sx e ⟨rfl, rfl⟩ qc rc
        have hbx := txb.same Sx
        have ai : atI (g.map V.int) (i : Int) = some (.int (g.getD i 0)) := atI_ints (by omega) (by omega)
        have nx : fulP g (i + 1) = fulP g i ++ if (!decide (V.int (g.getD i 0) = V.int (-1))) = true then [i] else [] := fr_next (p := fun k => !decide (V.int (g.getD k 0) = V.int (-1))) i
        walk_at "rx"
        refine ⟨rfl, ?_⟩
        walk_at "rx"
        refine ite2 (fun z => ?_) (fun z => ?_)
        · walk_at "rx"
          refine qc _ _ (Same.refl _) ?_
          rw [nx, if_pos z, nvs_app, e]
          rfl
        · refine rc _ (Same.refl _) ?_
          rw [nx, if_neg z, List.append_nil]
          exact e
      intro Hc F acc Sc nF hF e
      subst e
      have Sbc := Sb.trans Sc
      have gxc := gx.same Sbc
      have hEc := Sc _ _ hE
      have wc := wa.same Sbc
      have mE : E ∉ B.m := B.nem wa.i1 nE
      have mF : F ∉ B.m := B.nem (wa.same Sb).i1 nF
      have hLc := Sbc _ _ hLa
      have tpc := tp.same Sbc
      walk_at "rx"
      refine rd_newQ (by simp) fun Hd d Sd nd hd => ?_
      have hEd := Sd _ _ hEc
      have hFd := Sd _ _ hF
      have gxd := gxc.same Sd
      have hLd := Sd _ _ hLc
      have tpd := tpc.same Sd
      have wd := wc.same Sd
      refine rd_eqL (xs := niz (empP g g.length)) (ys := []) hEd hd ?_
      by_cases e0 : niz (empP g g.length) = []
      · rw [decide_eq_true e0]
        walk_at "rx"
        exact fin wd hLd tpd
      rw [decide_eq_false e0]
      walk_at "rx"
      refine rd_newQ (by simp) fun He d2 Se nd2 hd2 => ?_
      have hEe := Se _ _ hEd
      have hFe := Se _ _ hFd
      have gxe := gxd.same Se
      have hLe := Se _ _ hLd
      have tpe := tpd.same Se
      have we := wd.same Se
      refine rd_eqL (xs := niz (fulP g g.length)) (ys := []) hFe hd2 ?_
      by_cases f0 : niz (fulP g g.length) = []
      · rw [decide_eq_true f0]
        walk_at "rx"
        exact fin we hLe tpe
      rw [decide_eq_false f0]
      have e1 : 0 < (empP g g.length).length := by rw [← niz_len]; exact List.length_pos_iff.mpr e0
      have f1 : 0 < (fulP g g.length).length := by rw [← niz_len]; exact List.length_pos_iff.mpr f0
      have e2 := empP_len g g.length
      have f2 := fulP_len g g.length
      walk_at "rx"
      refine ⟨B, ((nvs (empP g g.length)).length : Nat), rfl, hB, we.i1, by rw [nvs_len]; omega, by rw [nvs_len]; omega, fun Hf k wf hk => ?_⟩
      rw [nvs_len] at hk
      have ek : (empP g g.length)[k]? = some (empP g g.length)[k] := List.getElem?_eq_getElem (by omega)
      obtain ⟨l1, g1⟩ := mem_empP.mp (List.mem_of_getElem? ek)
      generalize (empP g g.length)[k] = t at ek l1 g1
      have ak := nvs_atI ek
      have hEf := wf.lst mE hEe
      have hFf := wf.lst mF hFe
      walk_at "rx"
      refine ⟨B, ((nvs (fulP g g.length)).length : Nat), rfl, hB, wf.i1, by rw [nvs_len]; omega, by rw [nvs_len]; omega, fun Hg k2 wg hk2 => ?_⟩
      rw [nvs_len] at hk2
      have ek2 : (fulP g g.length)[k2]? = some (fulP g g.length)[k2] := List.getElem?_eq_getElem (by omega)
      obtain ⟨l2, g2⟩ := mem_fulP.mp (List.mem_of_getElem? ek2)
      generalize (fulP g g.length)[k2] = s at ek2 l2 g2
      have ak2 := nvs_atI ek2
      have hFg := wg.lst mF hFf
      have wfg := wf.trans wg
      have gxg := gxe.wg wfg
      have hLg := wfg.lst mL hLe
      have tpg := tpe.wg wfg
      walk_at "rx"
      refine ⟨B, x, g, t, way, rfl, hB, wg.i1, gxg, Ig.2.2, g12, l1, w100, fun Hh gs wh gl g46 g128 => ?_⟩
      have wfh := wfg.trans wh
      have hLh := wfh.lst mL hLe
      have tph := tpe.wg wfh
      have gxh := gxe.wg wfh
      walk_at "rx"
      refine rd_newQ (by simp) fun Hi p Si np hp => ?_
      have hLi := Si _ _ hLh
      have gxi := gxh.same Si
      have tpi := tph.same Si
      have wi := (we.trans wfh).same Si
      have las : as.length = rs.length := by rw [tpi.1]; exact List.length_map ..
      have lF : (as.map V.ref).length < 1000 := by rw [List.length_map]; omega
      have pL : p ≠ L := fun e => by rw [e, hLi] at hp; cases hp
      have ne : s ≠ t := fun e => g2 (by rw [e]; exact g1)
      walk_at "rx"
      have hpk : upd Hi L (.lst (as.map V.ref ++ [.ref p])) p = some (.tup [.str sMove, .int (t : Int), .int (s : Int), .str (txt gs)]) := (upd_ne pL).trans hp
      have ml : MvL g.length ⟨sMove, (t : Int), (s : Int), gs⟩ := .mk' l1 l2 ne (.inr gl)
      refine rd_ixM upd_same (atI_end (by rw [List.getLast?_append]; rfl)) ?_
      walk_at "rx"
      refine ⟨p, x, ⟨sMove, (t : Int), (s : Int), gs⟩, g, rfl, hpk, gxi.mutL hLi, Ig.2.2, g12, ml, fun Hj z Sj gz => ?_⟩
      walk_at "rx"
      refine ⟨z, _, as ++ [p], rs ++ [⟨sMove, (t : Int), (s : Int), gs⟩], _, _, _, _, _, _, rfl, (wi.mut nL).same Sj, gz, ⟨by rw [stp_len]; exact Ig.1, by rw [stp_len]; exact g12, stp_rg Ig.2.2 ml⟩, by rw [stp_len]; exact lg, Sj _ _ (by rw [upd_same, List.map_append]; rfl), ?_, by rw [List.length_append]; simp; omega, fun r hr => ?_⟩
      · rw [rows_snoc]
        exact TupsAt.same Sj ((TupsAt.mut hLi tpi).app hpk)
      · rcases List.mem_append.mp hr with k3 | k3
        · exact ok r k3
        · rw [List.mem_singleton.mp k3, ← lg]
          exact ⟨⟨ml, gl, g46⟩, g128⟩
    · rintro σ Ha ⟨x, g, as, rs, y6, y7, y8, y9, y10, y11, rfl, wa, gx, Ig, lg, hLa, tp, ri, ok⟩
      walk_at "rx"
      exact q _ L rs wa nL ⟨as, hLa, tp⟩ (by omega) ok
def sp_law_end (_K : PySem.W.Frag) : Sp := fun vs H Q _ => ∃ (l x : Addr) (L : List Ln) (g : List Int), vs = [.ref l, .ref x] ∧ LsAt H l L ∧ GT H x g ∧ Rg g ∧ g.length ≤ 12 ∧ L.length ≤ 100 ∧ (∀ r ∈ L, MvL g.length r) ∧ ∀ H' y, Same H H' → GT H' y (run L g) → Q (.ref y) H'
set_option maxHeartbeats 4000000 in
theorem ok_law_end (T : Top K mg) {f : Addr} {fd : FuncData} (D : Def K mg "_law_end" s_law_end ["lines", "now"] f fd) : FnOk P w K mg base CX0 4 f fd ["lines", "now"] (sp_law_end K) := by
  obtain ⟨f_law_after_line, fd_law_after_line, D_law_after_line⟩ := T.d__law_after_line
  have G_law_after_line : FnOk P w K mg base CX0 3 f_law_after_line fd_law_after_line ["line", "now"] (sp_law_after_line K) := ok_law_after_line T D_law_after_line
  refine D.F.ok sc_law_end (fun vs H Q E h => ?_) (fun cdv A outer s H vs Q E hr h => ?_)
  · obtain ⟨l, x, L, g, rfl, _⟩ := h
    rfl
  · obtain ⟨l, x, L, g, rfl, ⟨ps, hl, tp⟩, gx, Rg1, l12, l100, ml, q⟩ := h
    refine ⟨_, (pss_cons (ps_for PassesOwn.never rfl (pi_list (pv 0)) (pg_name (i := 2) sc_law_end.nd rfl (.inl rfl)) (pss_one (ps_set (i := 1) sc_law_end.nd rfl (.inl rfl) (pe_call G_law_after_line hr (by rfl) D_law_after_line.g D_law_after_line.F.kp D_law_after_line.b .nil pass0 (pa_cons (pv 2) (pa_cons (pv 1) pa_nil))))))
    (pss_one (ps_ret (pv 1)))), ?_⟩
    walk_at "rx"
    have lps : ps.length = L.length := by rw [tp.1]; exact List.length_map ..
    refine fr_it (walk_list (xs := ps.map V.ref)) (fun k σ H' => ∃ (y : Addr) (y2 : Option V), σ = [some (.ref l), some (.ref y), y2] ∧ Same H H' ∧ GT H' y (run (L.take k) g)) ⟨x, _, rfl, Same.refl _, gx⟩ (fun k σ H' _ pp => ?_) ?_ ?_
    · obtain ⟨_, _, _, S, _⟩ := pp
      exact SqL.of (S _ _ hl)
    · rintro k v σ H1 H2 hk ⟨y, y2, rfl, S, ty⟩ ⟨rfl, ex⟩
      rw [List.length_map, lps] at hk
      obtain ⟨p, e2, hp⟩ := (TupsAt.same S tp).2 k _ (by unfold rows; rw [List.getElem?_map, List.getElem?_eq_getElem hk]; rfl)
      rw [List.getElem?_map, e2] at ex
      cases ex
      have mk : ∀ r ∈ L.take k, MvL g.length r := fun r hr => ml r (List.mem_of_mem_take hr)
      have lr := run_len (L.take k) g
      walk_at "rx"
      refine ⟨p, y, L[k], run (L.take k) g, rfl, hp, ty, run_rg _ _ Rg1 mk, by omega, by rw [lr]; exact ml _ (List.getElem_mem hk), fun H3 z S3 tz => ?_⟩
      walk_at "rx"
      exact ⟨z, _, rfl, S.trans S3, by rw [take_next hk, RH.run_snoc]; exact tz⟩
    · rintro σ H1 ⟨y, y2, rfl, S, ty⟩
      rw [List.length_map, lps, List.take_length] at ty
      walk_at "rx"
      exact q _ _ S ty
def sp_law_beginnings (_K : PySem.W.Frag) : Sp := fun vs H Q _ => ∃ (l x : Addr) (L : List Ln) (g : List Int), vs = [.ref l, .ref x, .int 80] ∧ LsAt H l L ∧ GT H x g ∧ Rg g ∧ g.length ≤ 12 ∧ L.length ≤ 100 ∧ (∀ r ∈ L, MvL g.length r) ∧ ∀ H' d xs gs, Same H H' → H' d = some (.lst (xs.map V.ref)) → ImsG H' xs gs → gs.length ≤ 100 → (∀ h ∈ gs, Rg h ∧ h.length = g.length) → (gs = [] ∨ ∀ i, i ≤ L.length → run (L.take i) g ∈ gs) → Q (.ref d) H'
set_option maxHeartbeats 4000000 in
theorem ok_law_beginnings (T : Top K mg) {f : Addr} {fd : FuncData} (D : Def K mg "_law_beginnings" s_law_beginnings ["lines", "image", "most"] f fd) : FnOk P w K mg base CX0 4 f fd ["lines", "image", "most"] (sp_law_beginnings K) := by
  obtain ⟨f_law_after_line, fd_law_after_line, D_law_after_line⟩ := T.d__law_after_line
  have G_law_after_line : FnOk P w K mg base CX0 3 f_law_after_line fd_law_after_line ["line", "now"] (sp_law_after_line K) := ok_law_after_line T D_law_after_line
  refine D.F.ok sc_law_beginnings (fun vs H Q E h => ?_) (fun cdv A outer s H vs Q E hr h => ?_)
  · obtain ⟨l, x, L, g, rfl, _⟩ := h
    rfl
  · obtain ⟨l, x, L, g, rfl, ⟨ps, hl, tp⟩, gx, Rg1, l12, l100, ml, q⟩ := h
    have lps : ps.length = L.length := by rw [tp.1]; exact List.length_map ..
    refine ⟨_, (pss_cons (ps_set (i := 3) sc_law_beginnings.nd rfl (.inl rfl) (pe_dnewH rfl rfl))
    (pss_cons (ps_dputH rfl rfl hr.units (pv 3) (pv 1) pe_bl rfl)
    (pss_cons (ps_set (i := 4) sc_law_beginnings.nd rfl (.inl rfl) (pe_lst (pa_cons (pv 1) pa_nil)))
    (pss_cons (ps_for PassesOwn.never rfl (pi_range1 (by rfl) T.b_range (pa_cons (pv 2) pa_nil)) (pg_name (i := 5) sc_law_beginnings.nd rfl (.inl rfl)) (pss_cons (ps_if (pt_cmpR op_ge (pv 5) (pe_callB (r := rLenQ K) call_lenQ (by rfl) T.b_len PySem.boot_len (pa_cons (pv 4) pa_nil)) (nomark _)) (pss_one (ps_ret (pv 4))) pss_nil)
    (pss_cons (ps_set (i := 6) sc_law_beginnings.nd rfl (.inl rfl) (pe_ix (r := rIxL K) ix_list (pv 4) (pv 5) (fun _ _ => rfl)))
    (pss_one (ps_for PassesOwn.never rfl (pi_list (pv 0)) (pg_name (i := 7) sc_law_beginnings.nd rfl (.inl rfl)) (pss_cons (ps_set (i := 6) sc_law_beginnings.nd rfl (.inl rfl) (pe_call G_law_after_line hr (by rfl) D_law_after_line.g D_law_after_line.F.kp D_law_after_line.b .nil pass0 (pa_cons (pv 7) (pa_cons (pv 6) pa_nil))))
    (pss_one (ps_if (pt_cmp (pc_notinH rfl rfl hr.units (pv 6) (pv 3))) (pss_cons (ps_dputH rfl rfl hr.units (pv 3) (pv 6) pe_bl rfl)
    (pss_one (ps_expr (pe_bm PySem.F.plainAttrs_list PySem.F.slot_list_append PySem.F.type_list_append mt_append (pv 4) (pa_cons (pv 6) pa_nil))))) pss_nil))))))))
    (pss_one (ps_ret (pe_lst pa_nil))))))), ?_⟩
    walk_at "rx"
    refine rd_dnewH fun H1 M S1 nM hM => ?_
    walk_at "rx"
    refine rd_dputH ?_
    walk_at "rx"
    have m0 : MetI P w H1 M [] := ⟨[], Dg.nil hM, rfl⟩
    refine m0.put (.inr (gx.same S1)) (by decide) fun H2 e2 _ m1 => ?_
    obtain ⟨o2, e2⟩ := e2
    have S2 : Same H H2 := by rw [e2]; exact same_mut S1 nM
    have m1 : MetI P w H2 M [g] := m1
    walk_at "rx"
    refine rd_newQ (by simp) fun H3 D S3 nD hD => ?_
    have nD0 : H D = none := S2.free nD
    have h80 : -100000 ≤ (80 : Int) ∧ (80 : Int) ≤ 100000 := by decide
    walk_at "rx"
    refine fr_rng0 (fun i σ H' => ∃ (met : List (List Int)) (xs : List Addr) (y5 y6 y7 : Option V) (y1 : Addr), σ = [some (.ref l), some (.ref x), some (.int 80), some (.ref M), some (.ref D), y5, y6, y7] ∧ Same H H' ∧ MetI P w H' M met ∧ H' D = some (.lst (xs.map V.ref)) ∧ ImsG H' xs met ∧ met.length ≤ 1 + 100 * i ∧ (∀ h ∈ met, Rg h ∧ h.length = g.length) ∧ met[0]? = some g ∧ (0 < i → ∀ j, j ≤ L.length → run (L.take j) g ∈ met)) ⟨[g], [x], _, _, _, x, rfl, S2.trans S3, m1.same S3, hD, ImsG.snoc (xs := []) (gs := []) ⟨rfl, fun i x g a => by simp at a⟩ (gx.same (S2.trans S3)), by simp, fun h hh => by rw [List.mem_singleton.mp hh]; exact ⟨Rg1, rfl⟩, rfl, fun k => absurd k (Nat.lt_irrefl 0)⟩ ?_ ?_
    · rintro i σ Ha hi ⟨met, xs, y5, y6, y7, y1, rfl, Sa, ma, hDa, ia, lm, ok, m0, seen⟩
      have hi : i < 80 := hi
      have lx : xs.length = met.length := ia.1
      walk_at "rx"
      rw [List.length_map]
      by_cases big : ((xs.length : Nat) : Int) ≤ (i : Int)
      · rw [decide_eq_true big]
        walk_at "rx"
        have pos : 0 < met.length := by
          cases met with
          | nil => cases m0
          | cons a b => simp
        exact q _ D xs met Sa hDa ia (by omega) ok (.inr (seen (by omega)))
      rw [decide_eq_false big]
      have li : i < met.length := by omega
      obtain ⟨h, eh⟩ : ∃ h, met[i]? = some h := ⟨_, List.getElem?_eq_getElem li⟩
      obtain ⟨y0, ey⟩ : ∃ y, xs[i]? = some y := ⟨_, List.getElem?_eq_getElem (by omega)⟩
      have gy := ia.2 i y0 h ey eh
      have mh : h ∈ met := List.mem_of_getElem? eh
      obtain ⟨Rh, lh⟩ := ok h mh
      have ax : atI (xs.map V.ref) (i : Int) = some (.ref y0) := atI_nat (by rw [List.getElem?_map, ey]; rfl)
      walk_at "rx"
      refine fr_it (walk_list (xs := ps.map V.ref)) (fun k σ H' => ∃ (met2 : List (List Int)) (xs2 : List Addr) (y : Addr) (y7 : Option V), σ = [some (.ref l), some (.ref x), some (.int 80), some (.ref M), some (.ref D), some (.int (i : Int)), some (.ref y), y7] ∧ Same H H' ∧ MetI P w H' M met2 ∧ H' D = some (.lst (xs2.map V.ref)) ∧ ImsG H' xs2 met2 ∧ met2.length ≤ 1 + 100 * i + k ∧ (∀ h ∈ met2, Rg h ∧ h.length = g.length) ∧ met2[0]? = some g ∧ (∀ a ∈ met, a ∈ met2) ∧ GT H' y (run (L.take k) h) ∧ (∀ j, j ≤ k → run (L.take j) h ∈ met2)) ⟨met, xs, y0, _, rfl, Sa, ma, hDa, ia, by omega, ok, m0, fun a ha => ha, gy, fun j hj => by rw [show j = 0 by omega]; exact mh⟩ (fun k σ H' _ pp => ?_) ?_ ?_
      · obtain ⟨_, _, _, _, _, S, _⟩ := pp
        exact SqL.of (S _ _ hl)
      · rintro k v σ Hb Hc hk ⟨met2, xs2, y, y7, rfl, Sb, mb, hDb, ib, lb, okb, b0, sub, gb, sb⟩ ⟨rfl, ex⟩
        rw [List.length_map, lps] at hk
        obtain ⟨p, e2, hp⟩ := (TupsAt.same Sb tp).2 k _ (by unfold rows; rw [List.getElem?_map, List.getElem?_eq_getElem hk]; rfl)
        rw [List.getElem?_map, e2] at ex
        cases ex
        have mk : ∀ r ∈ L.take k, MvL h.length r := fun r hr => by rw [lh]; exact ml r (List.mem_of_mem_take hr)
        have lr := run_len (L.take k) h
        have mr : MvL (run (L.take k) h).length L[k] := by rw [lr, lh]; exact ml _ (List.getElem_mem hk)
        have rk := run_rg _ _ Rh mk
        have et : stp (run (L.take k) h) L[k] = run (L.take (k + 1)) h := by rw [take_next hk, RH.run_snoc]
        walk_at "rx"
        refine ⟨p, y, L[k], run (L.take k) h, rfl, hp, gb, rk, by omega, mr, fun He z Se gz => ?_⟩
        rw [et] at gz
        have me := mb.same Se
        walk_at "rx"
        refine rd_notInH ?_
        walk_at "rx"
        refine RH.MetI.has me (.inr gz) ?_
        have rz : Rg (run (L.take (k + 1)) h) ∧ (run (L.take (k + 1)) h).length = g.length := ⟨run_rg _ _ Rh fun r hr => by rw [lh]; exact ml r (List.mem_of_mem_take hr), (run_len _ _).trans lh⟩
        by_cases m : run (L.take (k + 1)) h ∈ met2
        · rw [decide_eq_true m]
          walk_at "rx"
          refine ⟨met2, xs2, z, _, rfl, Sb.trans Se, me, Se _ _ hDb, ib.same Se, by omega, okb, b0, sub, gz, fun j hj => ?_⟩
          by_cases jk : j ≤ k
          · exact sb j jk
          · rw [show j = k + 1 by omega]; exact m
        · rw [decide_eq_false m]
          walk_at "rx"
          refine rd_dputH ?_
          walk_at "rx"
          refine me.put (.inr gz) (by omega) fun Hf ef hM0 mf => ?_
          obtain ⟨o, ef⟩ := ef
          obtain ⟨xs0, hM0⟩ := hM0
          rw [if_neg m] at mf
          have Sf : Same H Hf := by rw [ef]; exact same_mut (Sb.trans Se) nM
          have hDf : Hf D = some (.lst (xs2.map V.ref)) := by rw [ef]; exact ext_keep hM0 (Se _ _ hDb) fun xs k => by cases k
          have gf : GT Hf z (run (L.take (k + 1)) h) := by rw [ef]; exact RH.GT.mutD gz hM0
          have iff' : ImsG Hf xs2 met2 := by rw [ef]; exact RH.ImsG.mutD (ib.same Se) hM0
          clear ef
          have lx2 : xs2.length = met2.length := iff'.1
          walk_at "rx"
          refine rd_appB hDf (by rw [List.length_map]; omega) ?_
          walk_at "rx"
          refine ⟨met2 ++ [run (L.take (k + 1)) h], xs2 ++ [z], z, _, rfl, same_mut Sf nD0, mf.mutL hDf, by rw [List.map_append]; exact upd_same, (iff'.snoc gf).mut hDf, by rw [List.length_append, List.length_singleton]; omega, fun a ha => ?_, ?_, fun a ha => List.mem_append_left _ (sub a ha), gf.mutL hDf, fun j hj => ?_⟩
          · rcases List.mem_append.mp ha with k2 | k2
            · exact okb a k2
            · rw [List.mem_singleton.mp k2]; exact rz
          · rw [List.getElem?_append_left (List.getElem?_eq_some_iff.mp b0).1]; exact b0
          · by_cases jk : j ≤ k
            · exact List.mem_append_left _ (sb j jk)
            · rw [show j = k + 1 by omega]; exact List.mem_append_right _ (List.mem_singleton_self _)
      · rintro σ Hb ⟨met2, xs2, y, y7, rfl, Sb, mb, hDb, ib, lb, okb, b0, sub, gb, sb⟩
        rw [List.length_map, lps] at lb sb
        walk_at "rx"
        refine ⟨met2, xs2, _, _, _, x, rfl, Sb, mb, hDb, ib, by omega, okb, b0, fun _ j hj => ?_⟩
        by_cases i0 : i = 0
        · rw [i0, m0] at eh
          cases eh
          exact sb j hj
        · exact sub _ (seen (by omega) j hj)
    · rintro σ Ha ⟨met, xs, y5, y6, y7, y1, rfl, Sa, ma, hDa, ia, lm, ok, m0, seen⟩
      walk_at "rx"
      refine rd_newQ (by simp) fun Hb E Sb nE hE => ?_
      exact q _ E [] [] (Sa.trans Sb) hE ⟨rfl, fun i x g a => by simp at a⟩ (by simp) (fun h hh => nomatch hh) (.inl rfl)
def sp_law_loop (_K : PySem.W.Frag) : Sp := fun vs H Q _ => ∃ (a b : Addr) (es fs : List Int) (i : Nat), vs = [.ref a, .ref b, .int (i : Int)] ∧ RP H a b es fs ∧ i < es.length ∧ ∀ H' p, Same H H' → H' p = some (.tup (nvs (lpL es fs i))) → Q (.ref p) H'
set_option maxHeartbeats 4000000 in
theorem ok_law_loop (T : Top K mg) {f : Addr} {fd : FuncData} (D : Def K mg "_law_loop" s_law_loop ["before", "after", "first"] f fd) : FnOk P w K mg base CX0 1 f fd ["before", "after", "first"] (sp_law_loop K) := by
  refine D.F.ok sc_law_loop (fun vs H Q E h => ?_) (fun cdv A outer s H vs Q E hr h => ?_)
  · obtain ⟨a, b, es, fs, i, rfl, _⟩ := h
    rfl
  · obtain ⟨a, b, es, fs, i0, rfl, r, hi, q⟩ := h
    have R := r.rn
    have e12 := r.ia.2.1
    have lf := R.len
    refine ⟨_, (pss_cons (ps_set (i := 3) sc_law_loop.nd rfl (.inl rfl) (pe_lst (pa_cons (pv 2) pa_nil)))
    (pss_cons (ps_for PassesOwn.never rfl (pi_range1 (by rfl) T.b_range (pa_cons (pe_callB (r := rLenQ K) call_lenQ (by rfl) T.b_len PySem.boot_len (pa_cons (pv 0) pa_nil)) pa_nil)) (pg_name (i := 4) sc_law_loop.nd rfl (.inl rfl)) (pss_cons (ps_if (pt_cmpR op_eq (pe_ix (r := rIxT K) ix_tup (pv 1) (pe_ix (r := rIxL K) ix_list (pv 3) (pe_un un_neg pe_int) (fun _ _ => rfl)) (fun _ _ => rfl)) (pe_un un_neg pe_int) (nomark _)) (pss_one (ps_ret (pe_tup pa_nil))) pss_nil)
    (pss_cons (ps_set (i := 5) sc_law_loop.nd rfl (.inl rfl) (pe_tix (pv 0) (pe_ix (r := rIxT K) ix_tup (pv 1) (pe_ix (r := rIxL K) ix_list (pv 3) (pe_un un_neg pe_int) (fun _ _ => rfl)) (fun _ _ => rfl))))
    (pss_cons (ps_if (pt_cmpR op_eq (pv 5) (pv 2) (nomark _)) (pss_one (ps_ret (pe_callTy (r := rTupQ K) call_tupQ (by rfl) T.b_tuple (by decide +kernel) (pa_cons (pv 3) pa_nil)))) pss_nil)
    (pss_one (ps_expr (pe_bm PySem.F.plainAttrs_list PySem.F.slot_list_append PySem.F.type_list_append mt_append (pv 3) (pa_cons (pv 5) pa_nil))))))))
    (pss_one (ps_ret (pe_tup pa_nil))))), ?_⟩
    walk_at "rx"
    refine rd_newQ (by simp) fun H1 D S1 nD hD => ?_
    have r1 := r.same S1
    have ha1 := r1.ta
    walk_at "rx"
    have hr1 : -100000 ≤ ((es.length : Nat) : Int) ∧ ((es.length : Nat) : Int) ≤ 100000 := by omega
    walk_at "rx"
    refine fr_it walk_rng (fun i σ H' => ∃ (p : List Nat) (y4 y5 : Option V), σ = [some (.ref a), some (.ref b), some (.int (i0 : Int)), some (.ref D), y4, y5] ∧ Same H H' ∧ H' D = some (.lst (nvs p)) ∧ Pth (G es fs) es.length i0 p ∧ p.length = i + 1 ∧ fol (G es fs) (es.length - i) p = Fo es fs i0)
      ⟨[i0], none, none, rfl, S1, hD, .start hi, rfl, rfl⟩ (fun _ _ _ _ _ => trivial) ?_ ?_
    · rintro i x σ H2 H3 hi2 ⟨p, y4, y5, rfl, S2, hD2, P, lp, ef⟩ ⟨rfl, rfl⟩
      have hi2 : i < es.length := by omega
      have r2 := r.same S2
      have hb2 := r2.tb
      have ll := P.lt _ (last_mem P.ne)
      have la := nvs_last P.ne
      have bi : atI (fs.map V.int) ((p.getLastD 0 : Nat) : Int) = some (.int (fs.getD (p.getLastD 0) 0)) := atI_ints (by omega) (by omega)
      walk_at "rx"
      by_cases n : fs.getD (p.getLastD 0) 0 = -1
      · rw [decide_eq_true (show V.int (fs.getD (p.getLastD 0) 0) = V.int (-1) from by rw [n])]
        walk_at "rx"
        refine rd_newQ (by decide) fun H4 t S4 nT hT => ?_
        have e : fol (G es fs) (es.length - i) p = p := fol_stop (by unfold G; rw [if_pos n]; exact last_mem P.ne) _
        rw [e] at ef
        refine q H4 t (S2.trans S4) ?_
        rw [hT]
        unfold lpL
        rw [← ef, if_neg (fun w => w.2 n)]
        rfl
      · rw [decide_eq_false (show ¬ V.int (fs.getD (p.getLastD 0) 0) = V.int (-1) from fun w => n (V.int.inj w))]
        walk_at "rx"
        have me := R.to ll n
        have mem : fs.getD (p.getLastD 0) 0 ∈ es := by rw [← me.2]; exact mem_at me.1
        have ge : es.idxOf (fs.getD (p.getLastD 0) 0) = G es fs (p.getLastD 0) := by unfold G; rw [if_neg n]
        refine ⟨_, rfl, _, _, rfl, r2.ga, ?_⟩
        walk_at "rx"
        refine ⟨_, rfl, r2.ga, mem, ?_⟩
        rw [ge]
        walk_at "rx"
        by_cases z : G es fs (p.getLastD 0) = i0
        · rw [decide_eq_true (show V.int ((G es fs (p.getLastD 0) : Nat) : Int) = V.int (i0 : Int) from by rw [z])]
          walk_at "rx"
          refine rd_newL fun H4 t S4 nT hT => ?_
          have e : fol (G es fs) (es.length - i) p = p := fol_stop (by rw [z]; exact List.mem_of_getElem? P.hd) _
          rw [e] at ef
          refine q H4 t (S2.trans S4) ?_
          rw [hT]
          unfold lpL
          rw [← ef, if_pos ⟨z, n⟩]
        · rw [decide_eq_false (show ¬ V.int ((G es fs (p.getLastD 0) : Nat) : Int) = V.int (i0 : Int) from fun w => z (by have := V.int.inj w; omega))]
          have la2 : (nvs p).length < 1000 := by rw [nvs_len]; omega
          have nin := lp_new R P n z
          walk_at "rx"
          refine ⟨p ++ [G es fs (p.getLastD 0)], _, _, rfl, same_mut S2 nD, by rw [nvs_app]; exact upd_same, P.next nin me.1, by rw [List.length_append, List.length_singleton, lp], ?_⟩
          rw [show es.length - i = (es.length - (i + 1)) + 1 by omega, fol_step nin] at ef
          exact ef
    · rintro σ H2 ⟨p, y4, y5, rfl, S2, hD2, P, lp, ef⟩
      have := P.len
      omega
def sp_law_loops (_K : PySem.W.Frag) : Sp := fun vs H Q _ => ∃ (a b : Addr) (es fs : List Int), vs = [.ref a, .ref b] ∧ RP H a b es fs ∧ ∀ H' l bs, Same H H' → H' l = some (.lst (bs.map V.ref)) → NRows H' bs (rngs es fs) → Q (.ref l) H'
set_option maxHeartbeats 4000000 in
theorem ok_law_loops (T : Top K mg) {f : Addr} {fd : FuncData} (D : Def K mg "_law_loops" s_law_loops ["before", "after"] f fd) : FnOk P w K mg base CX0 2 f fd ["before", "after"] (sp_law_loops K) := by
  obtain ⟨f_law_loop, fd_law_loop, D_law_loop⟩ := T.d__law_loop
  have G_law_loop : FnOk P w K mg base CX0 1 f_law_loop fd_law_loop ["before", "after", "first"] (sp_law_loop K) := ok_law_loop T D_law_loop
  refine D.F.ok sc_law_loops (fun vs H Q E h => ?_) (fun cdv A outer s H vs Q E hr h => ?_)
  · obtain ⟨a, b, es, fs, rfl, _⟩ := h
    rfl
  · obtain ⟨a, b, es, fs, rfl, r, q⟩ := h
    have R := r.rn
    have e12 := r.ia.2.1
    have lf := R.len
    refine ⟨_, (pss_cons (ps_set (i := 2) sc_law_loops.nd rfl (.inl rfl) (pe_lst pa_nil))
    (pss_cons (ps_for PassesOwn.never rfl (pi_range1 (by rfl) T.b_range (pa_cons (pe_callB (r := rLenQ K) call_lenQ (by rfl) T.b_len PySem.boot_len (pa_cons (pv 0) pa_nil)) pa_nil)) (pg_name (i := 3) sc_law_loops.nd rfl (.inl rfl)) (pss_cons (ps_set (i := 4) sc_law_loops.nd rfl (.inl rfl) (pe_call G_law_loop hr (by rfl) D_law_loop.g D_law_loop.F.kp D_law_loop.b .nil pass0 (pa_cons (pv 0) (pa_cons (pv 1) (pa_cons (pv 3) pa_nil)))))
    (pss_one (ps_if (PW.pt (pw_and (pt_cmpR op_gt (pe_callB (r := rLenQ K) call_lenQ (by rfl) T.b_len PySem.boot_len (pa_cons (pv 4) pa_nil)) pe_int (nomark _)) (pw_and1 (pt_cmpR op_eq (pe_ix (r := rIxT K) ix_tup (pv 4) pe_int (fun _ _ => rfl)) (pe_callB (r := rMinT) (cr_minT rfl (by exact hr.units)) (by rfl) T.b_min (by decide +kernel) (pa_cons (pv 4) pa_nil)) (nomark _))))) (pss_one (ps_expr (pe_bm PySem.F.plainAttrs_list PySem.F.slot_list_append PySem.F.type_list_append mt_append (pv 2) (pa_cons (pv 4) pa_nil)))) pss_nil))))
    (pss_one (ps_ret (pv 2))))), ?_⟩
    walk_at "rx"
    refine rd_newQ (by decide) fun H1 D S1 nD hD => ?_
    have r1 := r.same S1
    have ha1 := r1.ta
    have hr1 : -100000 ≤ ((es.length : Nat) : Int) ∧ ((es.length : Nat) : Int) ≤ 100000 := by omega
    walk_at "rx"
    refine fr_it walk_rng (fun i σ H' => ∃ (bs : List Addr) (y3 y4 : Option V), σ = [some (.ref a), some (.ref b), some (.ref D), y3, y4] ∧ Same H H' ∧ H' D = some (.lst (bs.map V.ref)) ∧ NRows H' bs ((tops es fs i).map (Fo es fs)))
      ⟨[], none, none, rfl, S1, hD, TupsAt.nil⟩ (fun _ _ _ _ _ => trivial) ?_ ?_
    · rintro i x σ H2 H3 hi2 ⟨bs, y3, y4, rfl, S2, hD2, tb⟩ ⟨rfl, rfl⟩
      have hi2 : i < es.length := by omega
      have r2 := r.same S2
      have nx : tops es fs (i + 1) = tops es fs i ++ if IsR (G es fs) (Fo es fs i) then [i] else [] := by
        unfold tops
        rw [List.range_succ, List.filter_append]
        congr 1
        by_cases z : IsR (G es fs) (Fo es fs i)
        · rw [if_pos z, List.filter_cons_of_pos (by rw [decide_eq_true z])]; rfl
        · rw [if_neg z, List.filter_cons_of_neg (by rw [decide_eq_false z]; decide)]; rfl
      have lb := NRows.len tb
      have l2 := List.length_filter_le (fun b => decide (IsR (G es fs) (Fo es fs b))) (List.range i)
      rw [List.length_range] at l2
      rw [List.length_map] at lb
      unfold tops at lb
      obtain ⟨P, _⟩ := fo_p R hi2
      walk_at "rx"
      refine ⟨a, b, es, fs, i, rfl, r2, hi2, fun H4 p S4 hp => ?_⟩
      have hD4 := S4 _ _ hD2
      have tb4 := TupsAt.same S4 tb
      have no : ¬ IsR (G es fs) (Fo es fs i) → NRows H4 bs ((tops es fs (i + 1)).map (Fo es fs)) := fun k => by rw [nx, if_neg k, List.append_nil]; exact tb4
      walk_at "rx"
      by_cases c : G es fs ((Fo es fs i).getLastD 0) = i ∧ fs.getD ((Fo es fs i).getLastD 0) 0 ≠ -1
      · have el : lpL es fs i = Fo es fs i := by unfold lpL; rw [if_pos c]
        rw [el] at hp ⊢
        have hd := P.headD
        by_cases z1 : 1 < (Fo es fs i).length
        · rw [decide_eq_true (show (1 : Int) < (((nvs (Fo es fs i)).length : Nat) : Int) by rw [nvs_len]; omega)]
          have h0 : atI (nvs (Fo es fs i)) (0 : Int) = some (V.int (i : Int)) := nvs_atI (i := 0) P.hd
          walk_at "rx"
          refine rd_minT (ns := niz (Fo es fs i)) hp (by rw [niz_len]; omega) fun m hm hle => ?_
          obtain ⟨x, rfl, hx⟩ := niz_of hm
          walk_at "rx"
          by_cases z3 : i = x
          · rw [decide_eq_true (show V.int (i : Int) = V.int (x : Int) from by rw [z3])]
            have lb2 : (bs.map V.ref).length < 1000 := by rw [List.length_map]; omega
            walk_at "rx"
            refine ⟨bs ++ [p], _, _, rfl, same_mut (S2.trans S4) nD, by rw [List.map_append]; exact upd_same, ?_⟩
            rw [nx, if_pos ⟨z1, by rw [hd]; exact c.1, fun y hy => by
              rw [hd, z3]
              have := hle _ (mem_niz.mpr hy)
              omega⟩, List.map_append]
            exact (NRows.upd tb4 hD4).snoc ((upd_ne (fun e => by rw [e, hD4] at hp; cases hp)).trans hp)
          · rw [decide_eq_false (show ¬ V.int (i : Int) = V.int (x : Int) from fun w => z3 (by have := V.int.inj w; omega))]
            walk_at "rx"
            refine ⟨bs, _, _, rfl, S2.trans S4, hD4, no fun k => z3 ?_⟩
            have k1 := k.2.2 x hx
            rw [hd] at k1
            have k2 := hle _ (mem_niz.mpr (List.mem_of_getElem? P.hd))
            omega
        · rw [decide_eq_false (show ¬ (1 : Int) < (((nvs (Fo es fs i)).length : Nat) : Int) by rw [nvs_len]; omega)]
          walk_at "rx"
          exact ⟨bs, _, _, rfl, S2.trans S4, hD4, no fun k => z1 k.1⟩
      · have el : lpL es fs i = [] := by unfold lpL; rw [if_neg c]
        rw [el] at hp ⊢
        rw [decide_eq_false (show ¬ (1 : Int) < (((nvs ([] : List Nat)).length : Nat) : Int) by decide)]
        walk_at "rx"
        refine ⟨bs, _, _, rfl, S2.trans S4, hD4, no fun k => c ?_⟩
        have e := rg_end R hi2 k
        exact ⟨e.1, e.2.1⟩
    · rintro σ H2 ⟨bs, y3, y4, rfl, S2, hD2, tb⟩
      walk_at "rx"
      refine q _ _ bs S2 hD2 ?_
      rw [show (((es.length : Nat) : Int)).toNat = es.length by omega] at tb
      exact tb
def sp_law_one_kind (_K : PySem.W.Frag) : Sp := fun vs H Q _ => ∃ (a : Addr) (es : List Int), vs = [.ref a] ∧ TG H a es ∧ Img es ∧ ∀ H', Same H H' → Q (.bl (decide (mono es))) H'
set_option maxHeartbeats 4000000 in
theorem ok_law_one_kind (T : Top K mg) {f : Addr} {fd : FuncData} (D : Def K mg "_law_one_kind" s_law_one_kind ["image"] f fd) : FnOk P w K mg base CX0 1 f fd ["image"] (sp_law_one_kind K) := by
  refine D.F.ok sc_law_one_kind (fun vs H Q E h => ?_) (fun cdv A outer s H vs Q E hr h => ?_)
  · obtain ⟨a, es, rfl, _⟩ := h
    rfl
  · obtain ⟨a, es, rfl, hT, I, q⟩ := h
    obtain ⟨I1, I2, I3⟩ := I
    refine ⟨_, (pss_cons (ps_set (i := 1) sc_law_one_kind.nd rfl (.inr rfl) (pe_lc (own := [("entry", 2)]) (g := gName 2) (tt := _) rfl sc_law_one_kind.nd (pi_tup (pv 0))
      (blkOk_by (own := [("entry", 2)]) (N := ["image", "signs", "entry", "sign"]) (sc := defScope s_law_one_kind) (by decide +kernel)) (fun _ _ _ _ _ => (pg_name (i := 2) sc_law_one_kind.nd rfl (.inl rfl))) (fun _ _ _ _ _ => pts_one (pt_cmpR op_ne (pv 2) (pe_un un_neg pe_int) (nomark _)))
      (fun _ _ _ _ _ => (pe_op op_fdivN (pv 2) pe_int))))
    (pss_one (ps_ret (pe_cmpR (op_eqD hr.units) (pe_lc (own := [("sign", 3)]) (g := gName 3) (tt := _) rfl sc_law_one_kind.nd (pi_list (pv 1))
      (blkOk_by (own := [("sign", 3)]) (N := ["image", "signs", "entry", "sign"]) (sc := defScope s_law_one_kind) (by decide +kernel)) (fun _ _ _ _ _ => (pg_name (i := 3) sc_law_one_kind.nd rfl (.inl rfl))) (fun _ _ _ _ _ => pts_one (pt_cmpR op_ne (pv 3) (pe_ix (r := rIxL K) ix_list (pv 1) pe_int (fun _ _ => rfl)) (nomark _)))
      (fun _ _ _ _ _ => (pv 3))) (pe_lst pa_nil) (nomark _))))), ?_⟩
    walk_at "rx"
    refine lc_acc (walk_tup (xs := es.map V.int)) (fun i acc => acc = (kinds (es.take i)).map V.int) rfl (fun i acc hi e => by
      have := kinds_len (es.take i)
      rw [List.length_take] at this
      rw [e, List.length_map]
      omega) (fun H' S => (hT.same S).sq) ?_ ?_
    · rintro i x Hx Hy acc Qc R2 hi Sx e ⟨rfl, ex⟩ qc rc
      have hi2 : i < es.length := by rw [List.length_map] at hi; exact hi
      rw [List.getElem?_map, List.getElem?_eq_getElem hi2] at ex
      cases ex
      have nx := kinds_next hi2
      have k := I3 _ (List.getElem_mem hi2)
      walk_at "rx"
      refine ⟨rfl, ?_⟩
      walk_at "rx"
      by_cases z : es[i] = -1
      · rw [decide_eq_true (show V.int es[i] = V.int (-1) from by rw [z])]
        walk_at "rx"
        refine rc _ (Same.refl _) ?_
        rw [nx, if_pos z, List.append_nil]
        exact e
      · rw [decide_eq_false (show ¬ V.int es[i] = V.int (-1) from fun w => z (V.int.inj w))]
        walk_at "rx"
        refine qc _ _ (Same.refl _) ?_
        rw [nx, if_neg z, List.map_append, e]
        rfl
    intro H1 D acc S1 nD hD e
    rw [e, List.length_map, List.take_length] at hD
    have kl := kinds_len es
    walk_at "rx"
    refine lc_acc (walk_list (xs := (kinds es).map V.int)) (fun i acc => acc = (odd (kinds es) i).map V.int) rfl (fun i acc hi e => by
      have := odd_len (kinds es) i
      rw [e, List.length_map]
      omega) (fun H' S => SqL.of (S _ _ hD)) ?_ ?_
    · rintro i x Hx Hy acc Qc R2 hi Sx e ⟨rfl, ex⟩ qc rc
      have hi2 : i < (kinds es).length := by rw [List.length_map] at hi; exact hi
      have h0 : atI ((kinds es).map V.int) (0 : Int) = some (.int ((kinds es).getD 0 0)) := atI_ints (k := 0) (by decide) (by show (0 : Int) < (((kinds es).length : Nat) : Int); omega)
      have hDx := Sx _ _ hD
      rw [List.getElem?_map, List.getElem?_eq_getElem hi2] at ex
      cases ex
      have nx := odd_next hi2
      walk_at "rx"
      refine ⟨rfl, ?_⟩
      walk_at "rx"
      by_cases z : (kinds es)[i] = (kinds es).getD 0 0
      · rw [decide_eq_true (show V.int (kinds es)[i] = V.int ((kinds es).getD 0 0) from by rw [z])]
        walk_at "rx"
        refine rc _ (Same.refl _) ?_
        rw [nx, if_pos z, List.append_nil]
        exact e
      · rw [decide_eq_false (show ¬ V.int (kinds es)[i] = V.int ((kinds es).getD 0 0) from fun w => z (V.int.inj w))]
        walk_at "rx"
        refine qc _ _ (Same.refl _) ?_
        rw [nx, if_neg z, List.map_append, e]
        rfl
    intro H2 D2 acc S2 nD2 hD2 e
    rw [e, List.length_map] at hD2
    have ol := odd_len (kinds es) (kinds es).length
    walk_at "rx"
    refine rd_newQ (by decide) fun H3 L S3 nL hL => ?_
    have hD3 := S3 _ _ hD2
    refine rd_eqL hD3 (ys := []) hL ?_
    rw [mono_odd I3]
    exact q _ ((S1.trans S2).trans S3)
def sp_law_view (_K : PySem.W.Frag) : Sp := fun vs H Q _ => ∃ (a : Addr) (es : List Int), vs = [.ref a] ∧ (TG H a es ∨ H a = some (.lst (es.map V.int))) ∧ Rg es ∧ es.length ≤ 12 ∧ ∀ H', Same H H' → Q (.str (txt (codes es))) H'
set_option maxHeartbeats 4000000 in
theorem ok_law_view (T : Top K mg) {f : Addr} {fd : FuncData} (D : Def K mg "_law_view" s_law_view ["image"] f fd) : FnOk P w K mg base CX0 2 f fd ["image"] (sp_law_view K) := by
  obtain ⟨f_law_sign, fd_law_sign, D_law_sign⟩ := T.d__law_sign
  have G_law_sign : FnOk P w K mg base CX0 1 f_law_sign fd_law_sign ["entry"] (sp_law_sign K) := ok_law_sign T D_law_sign
  refine D.F.ok sc_law_view (fun vs H Q E h => ?_) (fun cdv A outer s H vs Q E hr h => ?_)
  · obtain ⟨a, es, rfl, _⟩ := h
    rfl
  · obtain ⟨a, es, rfl, hT, I3, I2, q⟩ := h
    refine ⟨_, (pss_one (ps_ret (pe_join pe_str (pe_lc (own := [("entry", 1)]) (g := gName 1) (tt := tYes) rfl sc_law_view.nd (pi_or (pi_tup (pv 0)) (pi_list (pv 0)))
      (blkOk_by (own := [("entry", 1)]) (N := ["image", "entry"]) (sc := defScope s_law_view) (by decide +kernel)) (fun _ _ _ _ _ => (pg_name (i := 1) sc_law_view.nd rfl (.inl rfl))) (fun _ _ _ _ _ => pts_nil)
      (fun _ _ _ _ _ => (pe_call G_law_sign hr (by rfl) D_law_sign.g D_law_sign.F.kp D_law_sign.b .nil pass0 (pa_cons (pv 1) pa_nil))))))), ?_⟩
    walk_at "rx"
    rcases hT with hT | hT
    · refine .inl ?_
      walk_at "rx"
      refine lc_map (walk_tup (xs := es.map V.int)) ((codes es).map fun c => V.str (one c)) ?_ ?_ (fun H' S => (hT.same S).sq) ?_ ?_
      · simp [codes]
      · rw [List.length_map]
        omega
      · rintro i x H2 H3 Qc R hi S ⟨rfl, ex⟩ qc
        have hi2 : i < es.length := by rw [List.length_map] at hi; exact hi
        rw [List.getElem?_map, List.getElem?_eq_getElem hi2] at ex
        cases ex
        have k := I3 _ (List.getElem_mem hi2)
        walk_at "rx"
        refine ⟨rfl, ?_⟩
        walk_at "rx"
        refine ⟨_, rfl, k.1, k.2, qc _ _ (Same.refl _) ?_⟩
        unfold codes
        rw [List.map_map, List.getElem?_map, List.getElem?_eq_getElem hi2, sgS_one k]
        rfl
      · intro H2 D S nD hD
        refine ⟨_, D, (codes es).map one, rfl, rfl, .inl (SqL.of (by rw [List.map_map]; exact hD)), ?_, ?_⟩
        · rw [ones_sum, List.length_map, codes_len]
          show es.length + es.length * 0 ≤ _
          omega
        · rw [join_sg]
          exact q _ S
    · refine .inr ?_
      walk_at "rx"
      refine lc_map (walk_list (xs := es.map V.int)) ((codes es).map fun c => V.str (one c)) ?_ ?_ (fun H' S => SqL.of (S _ _ hT)) ?_ ?_
      · simp [codes]
      · rw [List.length_map]
        omega
      · rintro i x H2 H3 Qc R hi S ⟨rfl, ex⟩ qc
        have hi2 : i < es.length := by rw [List.length_map] at hi; exact hi
        rw [List.getElem?_map, List.getElem?_eq_getElem hi2] at ex
        cases ex
        have k := I3 _ (List.getElem_mem hi2)
        walk_at "rx"
        refine ⟨rfl, ?_⟩
        walk_at "rx"
        refine ⟨_, rfl, k.1, k.2, qc _ _ (Same.refl _) ?_⟩
        unfold codes
        rw [List.map_map, List.getElem?_map, List.getElem?_eq_getElem hi2, sgS_one k]
        rfl
      · intro H2 D S nD hD
        refine ⟨_, D, (codes es).map one, rfl, rfl, .inl (SqL.of (by rw [List.map_map]; exact hD)), ?_, ?_⟩
        · rw [ones_sum, List.length_map, codes_len]
          show es.length + es.length * 0 ≤ _
          omega
        · rw [join_sg]
          exact q _ S
def sp_law_reason (_K : PySem.W.Frag) : Sp := fun vs H Q _ => ∃ (a b : Addr) (es fs : List Int), vs = [.ref a, .ref b] ∧ RP H a b es fs ∧ ∀ H' d (k : Nat) p, Same H H' → H' d = some (.lst [.int (k : Int), .ref p]) → DueAt H' k p es fs → Q (.ref d) H'
set_option maxHeartbeats 4000000 in
theorem ok_law_reason (T : Top K mg) {f : Addr} {fd : FuncData} (D : Def K mg "_law_reason" s_law_reason ["before", "after"] f fd) : FnOk P w K mg base CX0 3 f fd ["before", "after"] (sp_law_reason K) := by
  obtain ⟨f_law_loops, fd_law_loops, D_law_loops⟩ := T.d__law_loops
  have G_law_loops : FnOk P w K mg base CX0 2 f_law_loops fd_law_loops ["before", "after"] (sp_law_loops K) := ok_law_loops T D_law_loops
  obtain ⟨f_law_one_kind, fd_law_one_kind, D_law_one_kind⟩ := T.d__law_one_kind
  have G_law_one_kind : FnOk P w K mg base CX0 1 f_law_one_kind fd_law_one_kind ["image"] (sp_law_one_kind K) := ok_law_one_kind T D_law_one_kind
  obtain ⟨f_law_view, fd_law_view, D_law_view⟩ := T.d__law_view
  have G_law_view : FnOk P w K mg base CX0 2 f_law_view fd_law_view ["image"] (sp_law_view K) := ok_law_view T D_law_view
  refine D.F.ok sc_law_reason (fun vs H Q E h => ?_) (fun cdv A outer s H vs Q E hr h => ?_)
  · obtain ⟨a, b, es, fs, rfl, _⟩ := h
    rfl
  · obtain ⟨a, b, es, fs, rfl, r, q⟩ := h
    have R := r.rn
    have e12 := r.ia.2.1
    refine ⟨_, (pss_cons (ps_if (pt_cmpR (op_eqD hr.units) (pv 0) (pv 1) (nomark _)) (pss_one (ps_ret (pe_lst (pa_cons pe_int (pa_cons (pe_tup pa_nil) pa_nil))))) pss_nil)
    (pss_cons (ps_if (pt_cmpR op_eq (pe_tcnt hr.units (pv 0) (pe_un un_neg pe_int)) pe_int (nomark _)) (pss_one (ps_ret (pe_lst (pa_cons pe_int (pa_cons (pe_tup (pa_cons pe_str pa_nil)) pa_nil))))) pss_nil)
    (pss_cons (ps_if (pt_cmpR op_eq (pe_call G_law_view hr (by rfl) D_law_view.g D_law_view.F.kp D_law_view.b .nil pass0 (pa_cons (pv 0) pa_nil)) (pe_call G_law_view hr (by rfl) D_law_view.g D_law_view.F.kp D_law_view.b .nil pass0 (pa_cons (pv 1) pa_nil)) (nomark _)) (pss_one (ps_ret (pe_lst (pa_cons pe_int (pa_cons (pe_tup (pa_cons pe_str pa_nil)) pa_nil))))) pss_nil)
    (pss_cons (ps_set (i := 2) sc_law_reason.nd rfl (.inl rfl) (pe_call G_law_loops hr (by rfl) D_law_loops.g D_law_loops.F.kp D_law_loops.b .nil pass0 (pa_cons (pv 0) (pa_cons (pv 1) pa_nil))))
    (pss_cons (ps_if (PW.pt (pw_or (pt_cmpR op_gt (pe_tcnt hr.units (pv 0) (pe_un un_neg pe_int)) pe_int (nomark _)) (pw_or1 (pt_cmpR (op_eqD hr.units) (pv 2) (pe_lst pa_nil) (nomark _))))) (pss_one (ps_ret (pe_lst (pa_cons pe_int (pa_cons (pe_tup pa_nil) pa_nil))))) pss_nil)
    (pss_cons (ps_if (pt_val (pe_call G_law_one_kind (hr.mono (by decide)) (by rfl) D_law_one_kind.g D_law_one_kind.F.kp D_law_one_kind.b .nil pass0 (pa_cons (pv 0) pa_nil))) (pss_one (ps_ret (pe_lst (pa_cons pe_int (pa_cons (pe_tup (pa_cons pe_str (pa_cons (pe_callTy (r := rTupQ K) call_tupQ (by rfl) T.b_tuple (by decide +kernel) (pa_cons (pv 2) pa_nil)) pa_nil))) pa_nil))))) pss_nil)
    (pss_one (ps_ret (pe_lst (pa_cons pe_int (pa_cons (pe_callTy (r := rTupQ K) call_tupQ (by rfl) T.b_tuple (by decide +kernel) (pa_cons (pv 2) pa_nil)) pa_nil))))))))))), ?_⟩
    walk_at "rx"
    refine rd_eqI r.ta r.tb ?_
    by_cases e0 : es = fs
    · rw [decide_eq_true e0]
      walk_at "rx"
      refine rd_newQ (by simp) fun H1 p S1 nP hP => ?_
      walk_at "rx"
      refine rd_newQ (by simp) fun H2 d S2 nD hD => ?_
      exact q H2 d 0 p (S1.trans S2) hD (.inl ⟨rfl, if_pos e0⟩)
    · rw [decide_eq_false e0]
      walk_at "rx"
      refine ⟨_, rfl, _, _, rfl, r.ga, ?_⟩
      walk_at "rx"
      refine ⟨_, rfl, r.ga, ?_⟩
      walk_at "rx"
      by_cases z : es.count (-1) = 0
      · rw [decide_eq_true (show V.int ((es.count (-1) : Nat) : Int) = V.int 0 by rw [z]; rfl)]
        have n1 : -1 ∉ es := List.count_eq_zero.mp z
        walk_at "rx"
        refine rd_newQ (by simp) fun H1 p S1 nP hP => ?_
        walk_at "rx"
        refine rd_newQ (by simp) fun H2 d S2 nD hD => ?_
        exact q H2 d 1 p (S1.trans S2) hD (.inr (.inl ⟨rfl, 1, by unfold vdt; rw [if_neg e0, if_pos n1], by decide, by decide, .inl ⟨rfl, S2 _ _ hP⟩⟩))
      · rw [decide_eq_false (show ¬ V.int ((es.count (-1) : Nat) : Int) = V.int 0 from fun w => z (by have := V.int.inj w; omega))]
        have e1 : (-1 : Int) ∈ es := Classical.byContradiction fun k => z (List.count_eq_zero.mpr k)
        walk_at "rx"
        refine ⟨a, es, rfl, .inl r.ta, r.ia.2.2, e12, fun H2 S2 => ?_⟩
        have r2 := r.same S2
        walk_at "rx"
        refine ⟨b, fs, rfl, .inl r2.tb, r.ib.2.2, r.ib.2.1, fun H3 S3 => ?_⟩
        have r3 := r2.same S3
        have S13 := S2.trans S3
        walk_at "rx"
        by_cases e2 : codes es = codes fs
        · rw [decide_eq_true (show V.str (txt (codes es)) = V.str (txt (codes fs)) by rw [e2])]
          walk_at "rx"
          refine rd_newQ (by simp) fun H4 p S4 nP hP => ?_
          walk_at "rx"
          refine rd_newQ (by simp) fun H5 d S5 nD hD => ?_
          exact q H5 d 1 p ((S13.trans S4).trans S5) hD (.inr (.inl ⟨rfl, 2, by unfold vdt; rw [if_neg e0, if_neg (fun w => w e1), if_pos e2], by decide, by decide, .inr (.inl ⟨rfl, S5 _ _ hP⟩)⟩))
        · rw [decide_eq_false (show ¬ V.str (txt (codes es)) = V.str (txt (codes fs)) from fun w => e2 (txt_inj (V.str.inj w)))]
          walk_at "rx"
          refine ⟨a, b, es, fs, rfl, r3, fun H4 l bs S4 hl tb => ?_⟩
          have r4 := r3.same S4
          have S14 := S13.trans S4
          walk_at "rx"
          refine ⟨_, rfl, _, _, rfl, r4.ga, ?_⟩
          walk_at "rx"
          refine ⟨_, rfl, r4.ga, ?_⟩
          walk_at "rx"
          have none : ¬ crowd es fs → ∀ H' d p, Same H H' → H' d = some (.lst [.int ((0 : Nat) : Int), .ref p]) → Q (.ref d) H' := fun k H' d p S hd => q H' d 0 p S hd (.inl ⟨rfl, by unfold vdt; rw [if_neg e0, if_neg (fun w => w e1), if_neg e2, if_pos k]⟩)
          by_cases y : 1 < es.count (-1)
          · rw [decide_eq_true (show (1 : Int) < ((es.count (-1) : Nat) : Int) by omega)]
            walk_at "rx"
            refine rd_newQ (by simp) fun H5 p S5 nP hP => ?_
            walk_at "rx"
            refine rd_newQ (by simp) fun H6 d S6 nD hD => ?_
            exact none (fun k => by have := k.1; omega) H6 d p ((S14.trans S5).trans S6) hD
          · rw [decide_eq_false (show ¬ (1 : Int) < ((es.count (-1) : Nat) : Int) by omega)]
            walk_at "rx"
            refine rd_newQ (by simp) fun H5 p5 S5 nP5 hP5 => ?_
            have hl5 := S5 _ _ hl
            have tb5 := TupsAt.same S5 tb
            refine rd_eqRN hl5 tb5 hP5 ?_
            by_cases x : rngs es fs = []
            · rw [decide_eq_true x]
              walk_at "rx"
              refine rd_newQ (by simp) fun H6 p S6 nP hP => ?_
              walk_at "rx"
              refine rd_newQ (by simp) fun H7 d S7 nD hD => ?_
              exact none (fun k => k.2 x) H7 d p (((S14.trans S5).trans S6).trans S7) hD
            · rw [decide_eq_false x]
              have c : crowd es fs := ⟨by omega, x⟩
              have r5 := r4.same S5
              walk_at "rx"
              refine ⟨a, es, rfl, r5.ta, r5.ia, fun H6 S6 => ?_⟩
              have r6 := r5.same S6
              have hl6 := S6 _ _ hl5
              have tb6 := TupsAt.same S6 tb5
              have S16 := (S14.trans S5).trans S6
              walk_at "rx"
              by_cases m : mono es
              · rw [decide_eq_true m]
                walk_at "rx"
                refine rd_newL fun H7 t S7 nT hT => ?_
                walk_at "rx"
                refine rd_newQ (by simp) fun H8 p S8 nP hP => ?_
                walk_at "rx"
                refine rd_newQ (by simp) fun H9 d S9 nD hD => ?_
                have S79 := S8.trans S9
                exact q H9 d 1 p ((S16.trans S7).trans S79) hD (.inr (.inl ⟨rfl, 3, by unfold vdt; rw [if_neg e0, if_neg (fun w => w e1), if_neg e2, if_neg (fun w => w c), if_pos m], by decide, by decide, .inr (.inr ⟨rfl, t, bs, S9 _ _ hP, S79 _ _ hT, TupsAt.same (S7.trans S79) tb6⟩)⟩))
              · rw [decide_eq_false m]
                walk_at "rx"
                refine rd_newL fun H7 t S7 nT hT => ?_
                walk_at "rx"
                refine rd_newQ (by simp) fun H8 d S8 nD hD => ?_
                exact q H8 d 2 t ((S16.trans S7).trans S8) hD (.inr (.inr ⟨rfl, by unfold vdt; rw [if_neg e0, if_neg (fun w => w e1), if_neg e2, if_neg (fun w => w c), if_neg m], bs, S8 _ _ hT, TupsAt.same (S7.trans S8) tb6⟩))
def sp_law_due (_K : PySem.W.Frag) : Sp := fun vs H Q _ => ∃ (safe : Bool) (a b : Addr) (es fs : List Int), vs = [.bl safe, .ref a, .ref b] ∧ RP H a b es fs ∧ (safe = true → Saf es fs) ∧ ∀ H' d (k : Nat) p, Same H H' → H' d = some (.lst [.int (k : Int), .ref p]) → DueAt H' k p es fs → Q (.ref d) H'
set_option maxHeartbeats 4000000 in
theorem ok_law_due (T : Top K mg) {f : Addr} {fd : FuncData} (D : Def K mg "_law_due" s_law_due ["safe", "before", "after"] f fd) : FnOk P w K mg base CX0 4 f fd ["safe", "before", "after"] (sp_law_due K) := by
  obtain ⟨f_law_loops, fd_law_loops, D_law_loops⟩ := T.d__law_loops
  have G_law_loops : FnOk P w K mg base CX0 2 f_law_loops fd_law_loops ["before", "after"] (sp_law_loops K) := ok_law_loops T D_law_loops
  obtain ⟨f_law_reason, fd_law_reason, D_law_reason⟩ := T.d__law_reason
  have G_law_reason : FnOk P w K mg base CX0 3 f_law_reason fd_law_reason ["before", "after"] (sp_law_reason K) := ok_law_reason T D_law_reason
  refine D.F.ok sc_law_due (fun vs H Q E h => ?_) (fun cdv A outer s H vs Q E hr h => ?_)
  · obtain ⟨safe, a, b, es, fs, rfl, _⟩ := h
    rfl
  · obtain ⟨safe, a, b, es, fs, rfl, r, sf, q⟩ := h
    have R := r.rn
    refine ⟨_, (pss_cons (ps_if (pt_not (pt_val (pv 0))) (pss_one (ps_ret (pe_call G_law_reason hr (by rfl) D_law_reason.g D_law_reason.F.kp D_law_reason.b .nil pass0 (pa_cons (pv 1) (pa_cons (pv 2) pa_nil))))) pss_nil)
    (pss_cons (ps_set (i := 3) sc_law_due.nd rfl (.inl rfl) (pe_call G_law_loops (hr.mono (by decide)) (by rfl) D_law_loops.g D_law_loops.F.kp D_law_loops.b .nil pass0 (pa_cons (pv 1) (pa_cons (pv 2) pa_nil))))
    (pss_cons (ps_if (PW.pt (pw_and (pt_cmpR op_eq (pe_tcnt hr.units (pv 1) (pe_un un_neg pe_int)) pe_int (nomark _)) (pw_and1 (pt_cmpR (op_neD hr.units) (pv 3) (pe_lst pa_nil) (nomark _))))) (pss_one (ps_ret (pe_lst (pa_cons pe_int (pa_cons (pe_callTy (r := rTupQ K) call_tupQ (by rfl) T.b_tuple (by decide +kernel) (pa_cons (pv 3) pa_nil)) pa_nil))))) pss_nil)
    (pss_one (ps_ret (pe_lst (pa_cons pe_int (pa_cons (pe_tup pa_nil) pa_nil)))))))), ?_⟩
    walk_at "rx"
    cases safe with
    | false =>
      walk_at "rx"
      refine ⟨a, b, es, fs, rfl, r, fun H1 d k p S1 hd due => ?_⟩
      exact q _ d k p S1 hd due
    | true =>
      have sf := sf rfl
      have sv := sf.v
      walk_at "rx"
      refine ⟨a, b, es, fs, rfl, r, fun H1 l bs S1 hl tb => ?_⟩
      have r1 := r.same S1
      walk_at "rx"
      refine ⟨_, rfl, _, _, rfl, r1.ga, ?_⟩
      walk_at "rx"
      refine ⟨_, rfl, r1.ga, ?_⟩
      walk_at "rx"
      have none : ¬ crowd es fs → ∀ H' d p, Same H H' → H' d = some (.lst [.int ((0 : Nat) : Int), .ref p]) → Q (.ref d) H' := fun k H' d p S hd => q H' d 0 p S hd (.inl ⟨rfl, by rw [sv, if_neg (fun w => k w.1)]⟩)
      have empty : ¬ crowd es fs → ∀ H', Same H H' → tRet (tLst (tCons (tC (V.int 0)) (tCons (tTup tNil) tNil))) { nx := fun x H' => Q V.non H', rt := Q } (List.set (L2.start [Str.ofString "safe", Str.ofString "before", Str.ofString "after", Str.ofString "loops"] [V.bl true, V.ref a, V.ref b]) 3 (some (V.ref l))) H' := fun k H' S => by
        walk_at "rx"
        refine rd_newQ (by simp) fun H2 p S2 np hp => ?_
        walk_at "rx"
        refine rd_newQ (by simp) fun H3 d S3 nd hd => ?_
        exact none k _ d p ((S.trans S2).trans S3) hd
      by_cases n1 : es.count (-1) = 1
      · rw [decide_eq_true (show V.int ((es.count (-1) : Nat) : Int) = V.int 1 by rw [n1]; rfl)]
        walk_at "rx"
        refine rd_newQ (by simp) fun H2 t S2 nt ht => ?_
        have hl2 := S2 _ _ hl
        have tb2 := NRows.same tb S2
        refine rd_neRN hl2 tb2 ht ?_
        by_cases e0 : rngs es fs = []
        · rw [decide_eq_true e0]
          walk_at "rx"
          refine rd_newQ (by simp) fun H3 p S3 np hp => ?_
          walk_at "rx"
          refine rd_newQ (by simp) fun H4 d S4 nd hd => ?_
          exact none (fun k => k.2 e0) _ d p (((S1.trans S2).trans S3).trans S4) hd
        · rw [decide_eq_false e0]
          have cr : crowd es fs := ⟨n1, e0⟩
          have ne : es ≠ fs := fun e => e0 (by
            rw [← e]
            refine Classical.byContradiction fun ne => ?_
            obtain ⟨c, hc⟩ := List.exists_mem_of_ne_nil _ ne
            obtain ⟨b, hb, rfl⟩ := List.mem_map.mp hc
            obtain ⟨lb, k⟩ := mem_tops.mp hb
            have R2 : Ren es es := ⟨.refl _, R.nd⟩
            obtain ⟨y, _, A⟩ := ring_next R2 lb k (List.mem_of_getElem? (fo_p R2 lb).1.hd)
            exact A.ne (R2.inj A.l1 A.l2 A.eq A.fu))
          walk_at "rx"
          refine rd_newL fun H3 t3 S3 nt3 ht3 => ?_
          walk_at "rx"
          refine rd_newQ (by simp) fun H4 d S4 nd hd => ?_
          exact q H4 d 2 t3 (((S1.trans S2).trans S3).trans S4) hd (.inr (.inr ⟨rfl, by rw [sv, if_pos ⟨cr, ne⟩], bs, S4 _ _ ht3, NRows.same tb2 (S3.trans S4)⟩))
      · rw [decide_eq_false (show ¬ V.int ((es.count (-1) : Nat) : Int) = V.int 1 from fun w => n1 (by have := V.int.inj w; omega))]
        exact empty (fun k => n1 k.1) _ S1
def spcheck_image (K : PySem.W.Frag) : Sp := fun vs H Q E => ∃ (v : V), vs = [v] ∧
  ((∃ es, IG H v es ∧ ∀ H', Same H H' → Q .non H') ∨ (∃ M k, IB M H v k ∧ ∀ H' d, Same H H' → H' d = some (.xd [("block", .int k)]) → E (.ref (atTop K "InvalidImage")) (some d) H'))
set_option maxHeartbeats 4000000 in
theorem okcheck_image (T : Top K mg) {f : Addr} {fd : FuncData} (D : Def K mg "check_image" scheck_image ["image"] f fd) : FnOk P w K mg base (L2.CX P w) 3 f fd ["image"] (spcheck_image K) := by
  obtain ⟨fE_InvalidImage, fdE_InvalidImage, ET_InvalidImage, FE_InvalidImage, bE_InvalidImage⟩ := T.e_InvalidImage
  have GI_InvalidImage := okInit_InvalidImage (P := P) (w := w) (base := base) ET_InvalidImage FE_InvalidImage
  refine D.F.okX sccheck_image (fun vs H Q E h => ?_) (fun cdv A outer s H vs Q E hr h => ?_)
  · obtain ⟨v, rfl, _⟩ := h
    rfl
  · obtain ⟨v, rfl, hc⟩ := h
    refine ⟨_, (pss_cons (ps_if (PW.pt (pw_or (pt_not (pt_val (pe_callB (r := rIsO K) call_isO (by rfl) T.b_isinstance (by decide +kernel) (pa_cons (pv 0) (pa_cons (pe_bltn (v := .ty "tuple") (by rfl) T.b_tuple (by decide +kernel) rfl) pa_nil))))) (pw_or1 (pt_not (pt_chain op_le op_le pe_int (pe_callB (r := rLenQ K) call_lenQ (by rfl) T.b_len PySem.boot_len (pa_cons (pv 0) pa_nil)) (Rv.pe_k (by rfl) T.k__MOST_BLOCKS)))))) (pss_one (ps_raiseQ rfl (takes_of rfl rfl rfl rfl) (pmk_oex ET_InvalidImage.ox ET_InvalidImage.iC ET_InvalidImage.tI GI_InvalidImage (hr.mono (by decide)) bE_InvalidImage .nil pass0 (by rfl) ET_InvalidImage.gC (pa_cons (pe_un un_neg pe_int) pa_nil)))) pss_nil)
    (pss_one (ps_for (passes_of rfl) rfl (pi_enO (by rfl) T.b_enumerate (pa_cons (pv 0) pa_nil)) (pg_tup rfl (pgs_cons (pg_name (i := 1) sccheck_image.nd rfl (.inl rfl)) (pgs_cons (pg_name (i := 2) sccheck_image.nd rfl (.inl rfl)) pgs_nil))) (pss_one (ps_if (PW.pt (pw_or (pt_not (pt_val (pe_callB (r := rIsi K) call_isi (by rfl) T.b_isinstance (by decide +kernel) (pa_cons (pv 2) (pa_cons (pe_bltn (v := .ty "int") (by rfl) T.b_int (by decide +kernel) rfl) pa_nil))))) (pw_or1 (pt_not (pt_chain op_le op_le (Rv.pe_k (by rfl) T.k_EMPTY) (pv 2) (Rv.pe_k (by rfl) T.k__GREATEST)))))) (pss_one (ps_raiseQ rfl (takes_of rfl rfl rfl rfl) (pmk_oex ET_InvalidImage.ox ET_InvalidImage.iC ET_InvalidImage.tI GI_InvalidImage (hr.mono (by decide)) bE_InvalidImage .nil pass0 (by rfl) ET_InvalidImage.gC (pa_cons (pv 1) pa_nil)))) pss_nil))))), ?_⟩
    by_cases hv : ∃ p es, v = .ref p ∧ TG H p es ∧ 1 ≤ es.length ∧ es.length ≤ 12
    · obtain ⟨p, es, rfl, hp, x1, x12⟩ := hv
      obtain ⟨hG, hX⟩ : ((∀ i : Nat, i < es.length → EOk (es.getD i 0)) → ∀ H', Same H H' → Q .non H') ∧
          (∀ j : Nat, j < es.length → ¬ EOk (es.getD j 0) → (∀ i : Nat, i < j → EOk (es.getD i 0)) → ∀ H' d, Same H H' → H' d = some (.xd [("block", .int (j : Int))]) → E (.ref (atTop K "InvalidImage")) (some d) H') := by
        rcases hc with ⟨fs, ⟨a, e1, e2, I⟩, q⟩ | ⟨M, k, bad, q⟩
        · cases e1
          have e := hp.inj e2
          subst e
          exact ⟨fun _ => q, fun j hj n _ => absurd (I.2.2 _ (mem_at hj)) n⟩
        · rcases bad with ⟨_, ⟨p2, ys, e, _, h⟩ | ⟨p2, ys, e, h, l, _⟩⟩ | ⟨p2, ys, j, e, h, l1, l2, ek, hj, nx, ob⟩
          · cases e
            exact absurd h hp.nl
          · cases e
            rw [hp.inj h] at x1 x12
            omega
          · cases e
            have e := hp.inj h
            subst e
            refine ⟨fun g => absurd (g j hj) nx, fun j2 hj2 nx2 ob2 => ?_⟩
            have : j2 = j := by
              rcases Nat.lt_trichotomy j2 j with z | z | z
              · exact absurd (ob j2 z) nx2
              · exact z
              · exact absurd (ob2 j z) nx
            subst this
            rw [ek] at q
            exact q
      walk_at "rx"
      rw [decide_eq_true (show (1 : Int) ≤ ((es.length : Nat) : Int) by omega)]
      walk_at "rx"
      rw [decide_eq_true (show ((es.length : Nat) : Int) ≤ 12 by omega)]
      walk_at "rx"
      refine rd_EnO hp fun G hG0 => ?_
      refine fr_it walk_jen (fun i σ H' => ∃ y1 y2, σ = [some (.ref p), y1, y2] ∧ Same H H' ∧ ∀ j : Nat, j < i → EOk (es.getD j 0)) ⟨none, none, rfl, Same.refl H, fun j h => absurd h (Nat.not_lt_zero j)⟩ (fun i σ H' _ pp => ?_) ?_ ?_
      · obtain ⟨_, _, _, S, _⟩ := pp
        exact hG0 _ S
      · rintro i x σ H1 H2 hi ⟨y1, y2, rfl, S, ob⟩ ⟨t, u, w, rfl, nT, rfl, e1, e2⟩
        cases e1
        have hi2 : i < es.length := by rw [List.length_map] at hi; exact hi
        have e3 : (es.map V.int)[i]? = some w := e2
        rw [List.getElem?_map, get_at hi2] at e3
        cases e3
        have S3 := same_new (o := .tup [.int (i : Nat), V.int (es.getD i 0)]) S nT
        walk_at "rx"
        by_cases z1 : -1 ≤ es.getD i 0
        · rw [decide_eq_true z1]
          walk_at "rx"
          by_cases z2 : es.getD i 0 ≤ 999
          · rw [decide_eq_true z2]
            walk_at "rx"
            refine ⟨_, _, rfl, S3, fun j hj => ?_⟩
            by_cases z : j = i
            · rw [z]; exact ⟨z1, z2⟩
            · exact ob j (by omega)
          · rw [decide_eq_false z2]
            walk_at "rx"
            exact mkErr fun H8 d S8 hd => hX i hi2 (fun w => z2 w.2) ob H8 d (S3.trans S8) hd
        · rw [decide_eq_false z1]
          walk_at "rx"
          exact mkErr fun H8 d S8 hd => hX i hi2 (fun w => z1 w.1) ob H8 d (S3.trans S8) hd
      · rintro σ H' ⟨y1, y2, rfl, S, ob⟩
        exact hG (fun i hi => ob i (by rw [List.length_map]; exact hi)) _ S
    · rcases hc with ⟨es, ⟨a, e1, e2, I⟩, q⟩ | ⟨M, k, bad, q⟩
      · exact absurd ⟨a, _, e1, e2, I.1, I.2.1⟩ hv
      · rcases bad with ⟨ek, ⟨p2, ys, rfl, _, h⟩ | ⟨p2, ys, rfl, h, l, l2⟩⟩ | ⟨p2, ys, j, e, h, l1, l2, _⟩
        · rw [ek] at q
          walk_at "rx"
          refine rd_isOL h ?_
          walk_at "rx"
          exact mkErr fun H8 d S8 hd => q H8 d S8 hd
        · rw [ek] at q
          walk_at "rx"
          by_cases z1 : (1 : Int) ≤ ((ys.length : Nat) : Int)
          · rw [decide_eq_true z1]
            walk_at "rx"
            rw [decide_eq_false (show ¬ ((ys.length : Nat) : Int) ≤ 12 by omega)]
            walk_at "rx"
            exact mkErr fun H8 d S8 hd => q H8 d S8 hd
          · rw [decide_eq_false z1]
            walk_at "rx"
            exact mkErr fun H8 d S8 hd => q H8 d S8 hd
        · exact absurd ⟨p2, ys, e, h, l1, l2⟩ hv
def spcheck_renaming (K : PySem.W.Frag) : Sp := fun vs H Q E => ∃ (v1 v2 : V), vs = [v1, v2] ∧ PairS K H v1 v2 E fun _ _ _ _ => ∀ H', Same H H' → Q .non H'
set_option maxHeartbeats 4000000 in
theorem okcheck_renaming (T : Top K mg) {f : Addr} {fd : FuncData} (D : Def K mg "check_renaming" scheck_renaming ["before", "after"] f fd) : FnOk P w K mg base (L2.CX P w) 4 f fd ["before", "after"] (spcheck_renaming K) := by
  have ET_NotRenaming := T.e_NotRenaming
  obtain ⟨fcheck_image, fdcheck_image, Dcheck_image⟩ := T.d_check_image
  have Gcheck_image : FnOk P w K mg base (L2.CX P w) 3 fcheck_image fdcheck_image ["image"] (spcheck_image K) := okcheck_image T Dcheck_image
  refine D.F.okX sccheck_renaming (fun vs H Q E h => ?_) (fun cdv A outer s H vs Q E hr h => ?_)
  · obtain ⟨v1, v2, rfl, _⟩ := h
    rfl
  · obtain ⟨v1, v2, rfl, hc⟩ := h
    refine ⟨_, (pss_cons (ps_expr (pe_callS Gcheck_image hr (by rfl) Dcheck_image.g Dcheck_image.F.kp Dcheck_image.b (fun σ => passAt (takes_of rfl rfl rfl rfl) σ) (pa_cons (pv 0) pa_nil)))
    (pss_cons (ps_expr (pe_callS Gcheck_image hr (by rfl) Dcheck_image.g Dcheck_image.F.kp Dcheck_image.b (fun σ => passAt (takes_of rfl rfl rfl rfl) σ) (pa_cons (pv 1) pa_nil)))
    (pss_cons (ps_setLc (i := 2) (own := [("entry", 3)]) (g := gName 3) (tt := _) rfl sccheck_renaming.nd rfl rfl (sw_true rfl rfl rfl (by decide +kernel)) (pi_tup (pv 0))
      (blkOk_by (own := [("entry", 3)]) (N := ["before", "after", "values", "entry"]) (sc := defScope scheck_renaming) (by decide +kernel)) (fun _ _ _ _ _ => (pg_name (i := 3) sccheck_renaming.nd rfl (.inl rfl))) (fun _ _ _ _ _ => pts_one (pt_cmpR op_ne (pv 3) (Rv.pe_k (by rfl) T.k_EMPTY) (nomark _)))
      (fun _ _ _ _ _ => (pv 3)))
    (pss_one (ps_if (PW.pt (pw_or (pt_cmpR (op_neD hr.units) (pe_callB (r := rSortO K) cr_sortO (by rfl) T.b_sorted (by decide +kernel) (pa_cons (pv 0) pa_nil)) (pe_callB (r := rSortO K) cr_sortO (by rfl) T.b_sorted (by decide +kernel) (pa_cons (pv 1) pa_nil)) (nomark _)) (pw_or1 (pt_cmpR op_lt (pe_callB (r := rLenSO w) call_lenSO (by rfl) T.b_len PySem.boot_len (pa_cons (pe_callTy (r := rSetI K w) (cr_setI rfl) (by rfl) T.b_set (by decide +kernel) (pa_cons (pv 2) pa_nil)) pa_nil)) (pe_callB (r := rLenQ K) call_lenQ (by rfl) T.b_len PySem.boot_len (pa_cons (pv 2) pa_nil)) (nomark _))))) (pss_one (ps_raiseQ rfl (takes_of rfl rfl rfl rfl) (pmk_own0 PySem.F.excBase_ValueError ET_NotRenaming.q ET_NotRenaming.gC ET_NotRenaming.kC (raises_own ET_NotRenaming.bC ET_NotRenaming.tC) (by rfl)))) pss_nil))))), ?_⟩
    have hc2 : (∃ es fs, IG H v1 es ∧ IG H v2 fs ∧ ((Ren es fs ∧ ∀ H', Same H H' → Q .non H') ∨ (¬ Ren es fs ∧ ∀ H', Same H H' → E (.ref (atTop K "NotRenaming")) none H'))) ∨ (∃ M k, PB M H v1 v2 k ∧ ∀ H' d, Same H H' → H' d = some (.xd [("block", .int k)]) → E (.ref (atTop K "InvalidImage")) (some d) H') := by
      rcases hc with ⟨a, b, es, fs, rfl, rfl, r, q⟩ | ⟨M, k, bad, q⟩ | ⟨es, fs, i1, i2, n, q⟩
      · exact .inl ⟨es, fs, ⟨a, rfl, r.ta, r.ia⟩, ⟨b, rfl, r.tb, r.ib⟩, .inl ⟨r.rn, q⟩⟩
      · exact .inr ⟨M, k, bad, q⟩
      · exact .inl ⟨es, fs, i1, i2, .inr ⟨n, q⟩⟩
    rcases hc2 with ⟨es, fs, h1, h2, hq⟩ | ⟨M, k, bad, q⟩
    · walk_at "rx"
      refine ⟨v1, rfl, .inl ⟨es, h1, fun H1 S1 => ?_⟩⟩
      walk_at "rx"
      refine ⟨v2, rfl, .inl ⟨fs, h2.same S1, fun H2 S2 => ?_⟩⟩
      have S12 := S1.trans S2
      obtain ⟨a, rfl, ha, I⟩ := h1.same S12
      obtain ⟨b, rfl, hb, J⟩ := h2.same S12
      have e12 := I.2.1
      have f12 := J.2.1
      walk_at "rx"
      refine lc_acc (walk_tup (xs := es.map V.int)) (fun i acc => acc = (full (es.take i)).map V.int) rfl (fun i acc hi e => by
        rw [e, List.length_map]
        have := List.length_filter_le (fun x => !decide (x = -1)) (es.take i)
        unfold full
        rw [List.length_take] at this
        omega) (fun H' S => (ha.same S).sq) ?_ ?_
      · rintro i x Hx Hy acc Qc R hi Sx e ⟨rfl, ex⟩ qc rc
        have hi2 : i < es.length := by rw [List.length_map] at hi; exact hi
        rw [List.getElem?_map, List.getElem?_eq_getElem hi2] at ex
        cases ex
        have nx : ∀ r, (if es[i] = -1 then [] else [es[i]]) = r → full (es.take (i + 1)) = full (es.take i) ++ r := fun r er => by
          unfold full
          rw [take_next hi2, List.filter_append, ← er]
          congr 1
          by_cases z : es[i] = -1
          · rw [if_pos z, List.filter_cons_of_neg (by simpa using z)]; rfl
          · rw [if_neg z, List.filter_cons_of_pos (by simpa using z)]; rfl
        walk_at "rx"
        refine ⟨rfl, ?_⟩
        walk_at "rx"
        by_cases z : es[i] = -1
        · rw [decide_eq_true (show V.int es[i] = V.int (-1) from by rw [z])]
          walk_at "rx"
          refine rc _ (Same.refl _) ?_
          rw [nx _ rfl, if_pos z, List.append_nil]
          exact e
        · rw [decide_eq_false (show ¬ V.int es[i] = V.int (-1) from fun w => z (V.int.inj w))]
          walk_at "rx"
          refine qc _ _ (Same.refl _) ?_
          rw [nx _ rfl, if_neg z, List.map_append, e]
          rfl
      · intro H3 D acc S3 nD hD e
        rw [e, List.length_map, List.take_length] at hD
        have lf : (full es).length ≤ es.length := List.length_filter_le _ _
        have ha3 := ha.same S3
        walk_at "rx"
        refine rd_sortO ha3 (by omega) fun H4 p4 ms S4 n4 h4 pm4 pw4 => ?_
        have hb4 := (hb.same S3).same S4
        walk_at "rx"
        refine rd_sortO hb4 (by omega) fun H5 p5 ns S5 n5 h5 pm5 pw5 => ?_
        have h45 := S5 _ _ h4
        have hD5 := S5 _ _ (S4 _ _ hD)
        have S05 := ((S12.trans S3).trans S4).trans S5
        refine rd_neL h45 h5 ?_
        by_cases em : ms = ns
        · have pm : es.Perm fs := (pm4.symm.trans (by rw [em])).trans pm5
          rw [decide_eq_true em]
          walk_at "rx"
          refine rd_setI (.inl hD5) (by omega) fun H6 st c S6 n6 hc h6 => ?_
          walk_at "rx"
          refine rd_lenSO h6 fun hk => ?_
          obtain ⟨ks, k1, k2, k3⟩ := hk
          have hD6 := S6 _ _ hD5
          walk_at "rx"
          rw [List.length_map]
          by_cases nd : (full es).Nodup
          · have := card_nodup nd k1 k2
            rw [decide_eq_false (show ¬ ((c : Nat) : Int) < (((full es).length : Nat) : Int) by omega)]
            walk_at "rx"
            rcases hq with ⟨_, q⟩ | ⟨n, _⟩
            · exact q _ (S05.trans S6)
            · exact absurd ⟨pm, nd⟩ n
          · have := card_dup nd k1 k2
            rw [decide_eq_true (show ((c : Nat) : Int) < (((full es).length : Nat) : Int) by omega)]
            walk_at "rx"
            rcases hq with ⟨r, _⟩ | ⟨_, q⟩
            · exact absurd r.nd nd
            · exact q _ (S05.trans S6)
        · rw [decide_eq_false em]
          walk_at "rx"
          rcases hq with ⟨r, _⟩ | ⟨_, q⟩
          · exact absurd (srt_uniq ((pm4.trans r.pm).trans pm5.symm) pw4 pw5) em
          · exact q _ S05
    · walk_at "rx"
      rcases bad with bad | ⟨es, h1, bad⟩
      · exact ⟨v1, rfl, .inr ⟨M, k, bad, q⟩⟩
      · refine ⟨v1, rfl, .inl ⟨es, h1, fun H1 S1 => ?_⟩⟩
        walk_at "rx"
        exact ⟨v2, rfl, .inr ⟨M, k, bad.same S1, fun H' d S => q H' d (S1.trans S)⟩⟩
def sp_sign (_K : PySem.W.Frag) : Sp := fun vs H Q _ => ∃ e : Int, vs = [.int e] ∧ (-1 ≤ e ∧ e ≤ 999) ∧ Q (.str (one (sg e))) H
set_option maxHeartbeats 4000000 in
theorem ok_sign (T : Top K mg) {f : Addr} {fd : FuncData} (D : Def K mg "_sign" s_sign ["entry"] f fd) : FnOk P w K mg base CX0 1 f fd ["entry"] (sp_sign K) := by
  refine D.F.ok sc_sign (fun vs H Q E h => ?_) (fun cdv A outer s H vs Q E hr h => ?_)
  · obtain ⟨e, rfl, _⟩ := h
    rfl
  · obtain ⟨e, rfl, ⟨he0, he1⟩, q⟩ := h
    refine ⟨_, (pss_cons (ps_if (pt_cmpR op_eq (pv 0) (Rv.pe_k (by rfl) T.k_EMPTY) (nomark _)) (pss_one (ps_ret pe_str)) pss_nil)
    (pss_one (ps_ret (pe_callTy call_strQ (by rfl) T.b_str (by decide +kernel) (pa_cons (pe_op op_fdivN (pv 0) pe_int) pa_nil))))), ?_⟩
    walk_at "rd"
    refine ite2 (fun z => ?_) (fun z => ?_)
    · have z1 : e = -1 := V.int.inj (of_decide_eq_true z)
      walk_at "rd"
      rw [z1] at q
      exact q
    · have z1 : e ≠ -1 := fun k => z (by rw [k]; rfl)
      walk_at "rd"
      obtain ⟨k0, k1⟩ := kind_small (e := e) (by omega) he1
      refine rd_strQ k0 k1 ?_
      rw [digit_txtI k0 k1]
      unfold sg at q
      rw [if_neg z1] at q
      exact q
def splook (_K : PySem.W.Frag) : Sp := fun vs H Q _ => ∃ (a : Addr) (es : List Int), vs = [.ref a] ∧ TG H a es ∧ Img es ∧ ∀ H', Same H H' → Q (.str (txt (codes es))) H'
set_option maxHeartbeats 4000000 in
theorem oklook (T : Top K mg) {f : Addr} {fd : FuncData} (D : Def K mg "look" slook ["image"] f fd) : FnOk P w K mg base CX0 4 f fd ["image"] (splook K) := by
  obtain ⟨fcheck_image, fdcheck_image, Dcheck_image⟩ := T.d_check_image
  have Gcheck_image : FnOk P w K mg base (L2.CX P w) 3 fcheck_image fdcheck_image ["image"] (spcheck_image K) := okcheck_image T Dcheck_image
  obtain ⟨f_sign, fd_sign, D_sign⟩ := T.d__sign
  have G_sign : FnOk P w K mg base CX0 1 f_sign fd_sign ["entry"] (sp_sign K) := ok_sign T D_sign
  refine D.F.ok sclook (fun vs H Q E h => ?_) (fun cdv A outer s H vs Q E hr h => ?_)
  · obtain ⟨a, es, rfl, _⟩ := h
    rfl
  · obtain ⟨a, es, rfl, hT, I, q⟩ := h
    have I0 := I
    obtain ⟨I1, I2, I3⟩ := I
    refine ⟨_, (pss_cons (ps_expr (pe_call Gcheck_image hr (by rfl) Dcheck_image.g Dcheck_image.F.kp Dcheck_image.b .nil passL (pa_cons (pv 0) pa_nil)))
    (pss_one (ps_ret (pe_join pe_str (pe_lc (own := [("entry", 1)]) (g := gName 1) (tt := tYes) rfl sclook.nd (pi_tup (pv 0))
      (blkOk_by (own := [("entry", 1)]) (N := ["image", "entry"]) (sc := defScope slook) (by decide +kernel)) (fun _ _ _ _ _ => (pg_name (i := 1) sclook.nd rfl (.inl rfl))) (fun _ _ _ _ _ => pts_nil)
      (fun _ _ _ _ _ => (pe_call G_sign (hr.mono (by decide)) (by rfl) D_sign.g D_sign.F.kp D_sign.b .nil pass0 (pa_cons (pv 1) pa_nil)))))))), ?_⟩
    walk_at "rx"
    refine ⟨.ref a, rfl, .inl ⟨es, ⟨a, rfl, hT, I0⟩, fun H1 S1 => ?_⟩⟩
    have hT1 := hT.same S1
    walk_at "rx"
    refine lc_map (walk_tup (xs := es.map V.int)) ((codes es).map fun c => V.str (one c)) ?_ ?_ (fun H' S => (hT1.same S).sq) ?_ ?_
    · simp [codes]
    · rw [List.length_map]
      omega
    · rintro i x H2 H3 Qc R hi S ⟨rfl, ex⟩ qc
      have hi2 : i < es.length := by rw [List.length_map] at hi; exact hi
      rw [List.getElem?_map, List.getElem?_eq_getElem hi2] at ex
      cases ex
      walk_at "rx"
      refine ⟨rfl, ?_⟩
      walk_at "rx"
      refine ⟨_, rfl, I3 _ (List.getElem_mem hi2), qc _ _ (Same.refl _) ?_⟩
      unfold codes
      rw [List.map_map, List.getElem?_map, List.getElem?_eq_getElem hi2]
      rfl
    · intro H2 D S nD hD
      walk_at "rx"
      refine ⟨_, D, (codes es).map one, rfl, rfl, .inl (SqL.of (by rw [List.map_map]; exact hD)), ?_, ?_⟩
      · rw [ones_sum, List.length_map, codes_len]
        show es.length + es.length * 0 ≤ _
        omega
      · rw [join_sg]
        exact q _ (S1.trans S)
def sp_is_of_one_kind (_K : PySem.W.Frag) : Sp := fun vs H Q _ => ∃ (a : Addr) (es : List Int), vs = [.ref a] ∧ TG H a es ∧ Img es ∧ ∀ H', Same H H' → Q (.bl (decide (mono es))) H'
set_option maxHeartbeats 4000000 in
theorem ok_is_of_one_kind (T : Top K mg) {f : Addr} {fd : FuncData} (D : Def K mg "_is_of_one_kind" s_is_of_one_kind ["image"] f fd) : FnOk P w K mg base CX0 5 f fd ["image"] (sp_is_of_one_kind K) := by
  obtain ⟨flook, fdlook, Dlook⟩ := T.d_look
  have Glook : FnOk P w K mg base CX0 4 flook fdlook ["image"] (splook K) := oklook T Dlook
  refine D.F.ok sc_is_of_one_kind (fun vs H Q E h => ?_) (fun cdv A outer s H vs Q E hr h => ?_)
  · obtain ⟨a, es, rfl, _⟩ := h
    rfl
  · obtain ⟨a, es, rfl, hT, I, q⟩ := h
    have I0 := I
    obtain ⟨I1, I2, I3⟩ := I
    refine ⟨_, (pss_one (ps_ret (pe_cmpR op_lt (pe_callB (r := rLenSK P w) call_lenSK (by rfl) T.b_len PySem.boot_len (pa_cons (pe_sk (P := P) (w := w) (own := [("sign", 1)]) (g := gName 1) (tt := _) rfl rfl rfl sc_is_of_one_kind.nd (pi_str (pe_call Glook hr (by rfl) Dlook.g Dlook.F.kp Dlook.b .nil pass0 (pa_cons (pv 0) pa_nil)))
      (blkOk_by (own := [("sign", 1)]) (N := ["image", "sign"]) (sc := defScope s_is_of_one_kind) (by decide +kernel)) (fun _ _ _ _ _ => (pg_name (i := 1) sc_is_of_one_kind.nd rfl (.inl rfl))) (fun _ _ _ _ _ => pts_one (pt_cmpR op_ne (pv 1) pe_str (nomark _)))
      (fun _ _ _ _ _ => (pv 1))) pa_nil)) pe_int (nomark _)))), ?_⟩
    walk_at "rx"
    refine ⟨a, es, rfl, hT, I0, fun H1 S1 => ?_⟩
    walk_at "rx"
    refine sk_it walk_its (fun i ks => ks = sgns (codes es) i) rfl (fun i ks hi e => by
      have := sgns_len (codes es) i
      have := codes_len es
      rw [e]
      omega) (fun _ _ => trivial) ?_ ?_
    · rintro i x H2 H3 ks Qc R hi S e ⟨rfl, hi2, rfl⟩ qc rc
      have nx := sgns_next hi2
      walk_at "rx"
      refine ⟨rfl, ?_⟩
      walk_at "rx"
      have ed : decide (V.str (one (codes es)[i]) = V.str (Str.ofString ".")) = decide ((codes es)[i] = 46) := decide_eq_decide.mpr ⟨fun k => sgn_inj (V.str.inj k), fun k => by rw [k]; rfl⟩
      rw [ed]
      by_cases z : (codes es)[i] = 46
      · rw [decide_eq_true z]
        walk_at "rx"
        refine rc _ (Same.refl _) ?_
        rw [nx, if_pos z, List.append_nil]
        exact e
      · rw [decide_eq_false z]
        walk_at "rx"
        refine qc _ _ (Same.refl _) ?_
        rw [nx, if_neg z, e]
    · rintro H2 d ks c S nD hc hD e
      rw [e] at hc
      walk_at "rx"
      refine rd_lenSK hD ?_
      walk_at "rx"
      rw [mono_dn I3 hc]
      exact q _ (S1.trans S)
def spfollowed (_K : PySem.W.Frag) : Sp := fun vs H Q _ => ∃ (l : Addr) (es fs : List Int) (b : Nat), vs = [.ref l, .int (b : Int)] ∧ H l = some (.tup ((ldL es fs).map V.int)) ∧ Ren es fs ∧ es.length ≤ 12 ∧ b < es.length ∧ ∀ H' p, Same H H' → H' p = some (.tup (nvs (Fo es fs b))) → Q (.ref p) H'
set_option maxHeartbeats 4000000 in
theorem okfollowed (T : Top K mg) {f : Addr} {fd : FuncData} (D : Def K mg "followed" sfollowed ["leads", "block"] f fd) : FnOk P w K mg base CX0 1 f fd ["leads", "block"] (spfollowed K) := by
  refine D.F.ok scfollowed (fun vs H Q E h => ?_) (fun cdv A outer s H vs Q E hr h => ?_)
  · obtain ⟨l, es, fs, b, rfl, _⟩ := h
    rfl
  · obtain ⟨l, es, fs, b, rfl, hl, R, l12, hb, q⟩ := h
    have lf := R.len
    refine ⟨_, (pss_cons (ps_set (i := 2) scfollowed.nd rfl (.inl rfl) (pe_lst (pa_cons (pv 1) pa_nil)))
    (pss_cons (ps_while PassesOwn.never (PW.pt (pw_and (pt_cmpR op_ne (pe_ix (r := rIxT K) ix_tup (pv 0) (pe_ix (r := rIxL K) ix_list (pv 2) (pe_un un_neg pe_int) (fun _ _ => rfl)) (fun _ _ => rfl)) (Rv.pe_k (by rfl) T.k_EMPTY) (nomark _)) (pw_and1 (pt_cmpR (r := rIn K true) op_notIn_seq (pe_ix (r := rIxT K) ix_tup (pv 0) (pe_ix (r := rIxL K) ix_list (pv 2) (pe_un un_neg pe_int) (fun _ _ => rfl)) (fun _ _ => rfl)) (pv 2) (by rfl))))) (pss_one (ps_expr (pe_bm PySem.F.plainAttrs_list PySem.F.slot_list_append PySem.F.type_list_append mt_append (pv 2) (pa_cons (pe_ix (r := rIxT K) ix_tup (pv 0) (pe_ix (r := rIxL K) ix_list (pv 2) (pe_un un_neg pe_int) (fun _ _ => rfl)) (fun _ _ => rfl)) pa_nil)))))
    (pss_one (ps_ret (pe_callTy (r := rTupQ K) call_tupQ (by rfl) T.b_tuple (by decide +kernel) (pa_cons (pv 2) pa_nil)))))), ?_⟩
    walk_at "rx"
    refine rd_newQ (by simp) fun H1 D S1 nD hD => ?_
    walk_at "rx"
    refine ⟨fun m σ H' => ∃ p : List Nat, σ = [some (.ref l), some (.int (b : Int)), some (.ref D)] ∧ Same H H' ∧ H' D = some (.lst (nvs p)) ∧ Pth (G es fs) es.length b p ∧ p.length + m = es.length + 1 ∧ fol (G es fs) m p = Fo es fs b,
      ⟨es.length, [b], rfl, S1, hD, .start hb, by rw [List.length_singleton]; omega, rfl⟩, ?_⟩
    rintro m σ H2 ⟨p, rfl, S2, hD2, P, lm, ef⟩
    have hl2 := S2 _ _ hl
    have ll := P.lt _ (last_mem P.ne)
    have la := nvs_last P.ne
    have ga := ldL_at (es := es) (fs := fs) (b := p.getLastD 0) (by omega)
    have done : fol (G es fs) m p = p → ∀ H3 t, Same H2 H3 → H3 t = some (.tup (nvs p)) → Q (.ref t) H3 := fun e H3 t S3 h3 => q H3 t (S2.trans S3) (by rw [← ef, e]; exact h3)
    walk_at "rx"
    by_cases n : fs.getD (p.getLastD 0) 0 = -1
    · rw [if_pos n] at ga ⊢
      rw [decide_eq_true (show V.int (-1) = V.int (-1) from rfl)]
      walk_at "rx"
      have e : fol (G es fs) m p = p := fol_stop (by unfold G; rw [if_pos n]; exact last_mem P.ne) m
      refine rd_newL fun H3 t S3 n3 h3 => done e H3 t S3 h3
    · rw [if_neg n] at ga ⊢
      have gl := (R.to ll n).1
      rw [decide_eq_false (show ¬ V.int ((G es fs (p.getLastD 0) : Nat) : Int) = V.int (-1) from fun z => by have := V.int.inj z; omega)]
      walk_at "rx"
      refine rd_ninLf hD2 rfl (nvs_flat _) ?_
      rw [nvs_in]
      refine ⟨_, rfl, ?_⟩
      by_cases z : G es fs (p.getLastD 0) ∈ p
      · rw [decide_eq_true z]
        show if false = true then _ else _
        walk_at "rx"
        refine rd_newL fun H3 t S3 n3 h3 => done (fol_stop z m) H3 t S3 h3
      · rw [decide_eq_false z]
        show if true = true then _ else _
        have lp := P.len
        cases m with
        | zero => exact absurd lm (by omega)
        | succ m =>
          walk_at "rx"
          refine ⟨fun σ' H' => ∃ p2 : List Nat, σ' = [some (.ref l), some (.int (b : Int)), some (.ref D)] ∧ Same H H' ∧ H' D = some (.lst (nvs p2)) ∧ Pth (G es fs) es.length b p2 ∧ p2.length + m = es.length + 1 ∧ fol (G es fs) m p2 = Fo es fs b, fun σ' H' k => ⟨m, Nat.lt_succ_self m, k⟩, ?_⟩
          have la2 : (nvs p).length < 1000 := by rw [nvs_len]; omega
          walk_at "rx"
          exact ⟨p ++ [G es fs (p.getLastD 0)], rfl, same_mut S2 nD, by rw [nvs_app]; exact upd_same, P.next z gl, by rw [List.length_append, List.length_singleton]; omega, (fol_step z m).symm.trans ef⟩
def spall_rings (_K : PySem.W.Frag) : Sp := fun vs H Q _ => ∃ (l : Addr) (es fs : List Int), vs = [.ref l] ∧ H l = some (.tup ((ldL es fs).map V.int)) ∧ Ren es fs ∧ es.length ≤ 12 ∧ ∀ H' l2 bs, Same H H' → H' l2 = some (.lst (bs.map V.ref)) → NRows H' bs ((tops es fs es.length).map (Fo es fs)) → H l2 = none → Q (.ref l2) H'
set_option maxHeartbeats 4000000 in
theorem okall_rings (T : Top K mg) {f : Addr} {fd : FuncData} (D : Def K mg "all_rings" sall_rings ["leads"] f fd) : FnOk P w K mg base CX0 2 f fd ["leads"] (spall_rings K) := by
  obtain ⟨ffollowed, fdfollowed, Dfollowed⟩ := T.d_followed
  have Gfollowed : FnOk P w K mg base CX0 1 ffollowed fdfollowed ["leads", "block"] (spfollowed K) := okfollowed T Dfollowed
  refine D.F.ok scall_rings (fun vs H Q E h => ?_) (fun cdv A outer s H vs Q E hr h => ?_)
  · obtain ⟨l, es, fs, rfl, _⟩ := h
    rfl
  · obtain ⟨l, es, fs, rfl, hl, R, l12, q⟩ := h
    have lf := R.len
    have ll : ((ldL es fs).map V.int).length = es.length := by rw [List.length_map, ldL_len, ← lf]
    have hr1 : -100000 ≤ ((((ldL es fs).map V.int).length : Nat) : Int) ∧ ((((ldL es fs).map V.int).length : Nat) : Int) ≤ 100000 := by rw [ll]; omega
    refine ⟨_, (pss_cons (ps_setLc (i := 1) (own := [("block", 2)]) (g := gName 2) (tt := tYes) rfl scall_rings.nd rfl rfl (sw_true rfl rfl rfl (by decide +kernel)) (pi_range1 (by rfl) T.b_range (pa_cons (pe_callB (r := rLenQ K) call_lenQ (by rfl) T.b_len PySem.boot_len (pa_cons (pv 0) pa_nil)) pa_nil))
      (blkOk_by (own := [("block", 2)]) (N := ["leads", "paths", "block", "path"]) (sc := defScope sall_rings) (by decide +kernel)) (fun _ _ _ _ _ => (pg_name (i := 2) scall_rings.nd rfl (.inl rfl))) (fun _ _ _ _ _ => pts_nil)
      (fun _ _ _ _ _ => (pe_call Gfollowed hr (by rfl) Dfollowed.g Dfollowed.F.kp Dfollowed.b .nil pass0 (pa_cons (pv 0) (pa_cons (pv 2) pa_nil)))))
    (pss_one (ps_ret (pe_lc (own := [("path", 3)]) (g := gName 3) (tt := _) rfl scall_rings.nd (pi_list (pv 1))
      (blkOk_by (own := [("path", 3)]) (N := ["leads", "paths", "block", "path"]) (sc := defScope sall_rings) (by decide +kernel)) (fun _ _ _ _ _ => (pg_name (i := 3) scall_rings.nd rfl (.inl rfl))) (fun _ _ _ _ _ => pts_one (PW.pt (pw_and (pt_cmpR op_gt (pe_callB (r := rLenQ K) call_lenQ (by rfl) T.b_len PySem.boot_len (pa_cons (pv 3) pa_nil)) pe_int (nomark _)) (pw_and (pt_cmpR op_eq (pe_ix (r := rIxT K) ix_tup (pv 0) (pe_ix (r := rIxT K) ix_tup (pv 3) (pe_un un_neg pe_int) (fun _ _ => rfl)) (fun _ _ => rfl)) (pe_ix (r := rIxT K) ix_tup (pv 3) pe_int (fun _ _ => rfl)) (nomark _)) (pw_and1 (pt_cmpR op_eq (pe_ix (r := rIxT K) ix_tup (pv 3) pe_int (fun _ _ => rfl)) (pe_callB (r := rMinT) (cr_minT rfl (by exact hr.units)) (by rfl) T.b_min (by decide +kernel) (pa_cons (pv 3) pa_nil)) (nomark _)))))))
      (fun _ _ _ _ _ => (pv 3)))))), ?_⟩
    walk_at "rx"
    rw [show (((((ldL es fs).map V.int).length : Nat) : Int)).toNat = es.length by rw [ll]; omega]
    refine lc_acc2 walk_rng (fun i acc H' => ∃ bs, acc = bs.map V.ref ∧ NRows H' bs ((List.range i).map (Fo es fs))) ⟨[], rfl, TupsAt.nil⟩ (fun i acc Ha Hb k pp => by obtain ⟨bs, e1, e2⟩ := pp; exact ⟨bs, e1, e2.kt k⟩) (fun i acc H' hi pp => by
      obtain ⟨bs, rfl, e2⟩ := pp
      have := NRows.len e2
      rw [List.length_map, List.length_range] at this
      rw [List.length_map]
      omega) (fun _ _ => trivial) ?_ ?_
    · rintro i x Hx Hy acc Qc R2 hi Sx ⟨bs, rfl, tb⟩ ⟨rfl, rfl⟩ qc rc
      have hlx := Sx _ _ hl
      walk_at "rx"
      refine ⟨rfl, ?_⟩
      walk_at "rx"
      refine ⟨l, es, fs, i, rfl, hlx, R, l12, hi, fun H3 p S3 hp => ?_⟩
      refine qc _ _ S3 ⟨bs ++ [p], by rw [List.map_append]; rfl, ?_⟩
      rw [List.range_succ, List.map_append]
      exact NRows.snoc (TupsAt.same S3 tb) hp
    · rintro H3 D acc S nD hD ⟨bs, rfl, tb⟩
      have lb : bs.length = es.length := by
        have := NRows.len tb
        rw [List.length_map, List.length_range] at this
        exact this
      have hl3 := S _ _ hl
      walk_at "rx"
      refine lc_acc2 (walk_list (xs := bs.map V.ref)) (fun i acc H' => ∃ cs, acc = cs.map V.ref ∧ NRows H' cs ((tops es fs i).map (Fo es fs))) ⟨[], rfl, TupsAt.nil⟩ (fun i acc Ha Hb k pp => by obtain ⟨bs, e1, e2⟩ := pp; exact ⟨bs, e1, e2.kt k⟩) (fun i acc H' hi pp => by
        obtain ⟨cs, rfl, e2⟩ := pp
        have := NRows.len e2
        have l2 := List.length_filter_le (fun b => decide (IsR (G es fs) (Fo es fs b))) (List.range i)
        rw [List.length_range] at l2
        rw [List.length_map] at this
        unfold tops at this
        rw [List.length_map] at hi ⊢
        omega) (fun H' S => SqL.of (S _ _ hD)) ?_ ?_
      · rintro i x Hx Hy acc Qc R2 hi Sx ⟨cs, rfl, tc⟩ ⟨rfl, ex⟩ qc rc
        rw [List.length_map] at hi
        have hi2 : i < es.length := by omega
        have ew : ((List.range es.length).map (Fo es fs))[i]? = some (Fo es fs i) := by
          rw [List.getElem?_map, List.getElem?_range hi2]
          rfl
        obtain ⟨b, e1, e2⟩ := NRows.at (TupsAt.same Sx tb) ew
        rw [List.getElem?_map, e1] at ex
        cases ex
        have hlx := Sx _ _ hl3
        obtain ⟨P, _⟩ := fo_p R hi2
        have la := nvs_last P.ne
        have lle := P.lt _ (last_mem P.ne)
        have ga := ldL_at (es := es) (fs := fs) (b := (Fo es fs i).getLastD 0) (by omega)
        have h0 : atI (nvs (Fo es fs i)) (0 : Int) = some (V.int (i : Int)) := nvs_atI (i := 0) P.hd
        have hd := P.headD
        have nx : tops es fs (i + 1) = tops es fs i ++ if IsR (G es fs) (Fo es fs i) then [i] else [] := by
          unfold tops
          rw [List.range_succ, List.filter_append]
          congr 1
          by_cases z : IsR (G es fs) (Fo es fs i)
          · rw [if_pos z, List.filter_cons_of_pos (by rw [decide_eq_true z])]; rfl
          · rw [if_neg z, List.filter_cons_of_neg (by rw [decide_eq_false z]; decide)]; rfl
        have no : ¬ IsR (G es fs) (Fo es fs i) → R2 Hy := fun k => rc Hy (Same.refl _) ⟨cs, rfl, by rw [nx, if_neg k, List.append_nil]; exact tc⟩
        walk_at "rx"
        refine ⟨rfl, ?_⟩
        walk_at "rx"
        by_cases z1 : 1 < (Fo es fs i).length
        · rw [decide_eq_true (show (1 : Int) < (((nvs (Fo es fs i)).length : Nat) : Int) by rw [nvs_len]; omega)]
          walk_at "rx"
          by_cases n : fs.getD ((Fo es fs i).getLastD 0) 0 = -1
          · rw [if_pos n] at ga ⊢
            rw [decide_eq_false (show ¬ V.int (-1) = V.int (i : Int) from fun w => by have := V.int.inj w; omega)]
            walk_at "rx"
            exact no fun k => (rg_end R hi2 k).2.1 n
          · rw [if_neg n] at ga ⊢
            by_cases z2 : G es fs ((Fo es fs i).getLastD 0) = i
            · rw [decide_eq_true (show V.int ((G es fs ((Fo es fs i).getLastD 0) : Nat) : Int) = V.int (i : Int) from by rw [z2])]
              walk_at "rx"
              refine rd_minT (ns := niz (Fo es fs i)) e2 (by rw [niz_len]; omega) fun m hm hle => ?_
              obtain ⟨x, rfl, hx⟩ := niz_of hm
              walk_at "rx"
              by_cases z3 : i = x
              · rw [decide_eq_true (show V.int (i : Int) = V.int (x : Int) from by rw [z3])]
                walk_at "rx"
                refine qc _ _ (Same.refl _) ⟨cs ++ [b], by rw [List.map_append]; rfl, ?_⟩
                rw [nx, if_pos ⟨z1, by rw [hd]; exact z2, fun y hy => by
                  rw [hd, z3]
                  have := hle _ (mem_niz.mpr hy)
                  omega⟩, List.map_append]
                exact tc.snoc e2
              · rw [decide_eq_false (show ¬ V.int (i : Int) = V.int (x : Int) from fun w => z3 (by have := V.int.inj w; omega))]
                walk_at "rx"
                refine no fun k => z3 ?_
                have k1 := k.2.2 x hx
                rw [hd] at k1
                have k2 := hle _ (mem_niz.mpr (List.mem_of_getElem? P.hd))
                omega
            · rw [decide_eq_false (show ¬ V.int ((G es fs ((Fo es fs i).getLastD 0) : Nat) : Int) = V.int (i : Int) from fun w => z2 (by have := V.int.inj w; omega))]
              walk_at "rx"
              exact no fun k => z2 (by have := k.2.1; rw [hd] at this; exact this)
        · rw [decide_eq_false (show ¬ (1 : Int) < (((nvs (Fo es fs i)).length : Nat) : Int) by rw [nvs_len]; omega)]
          walk_at "rx"
          exact no fun k => z1 k.1
      · rintro H4 D4 acc S4 nD4 hD4 ⟨cs, rfl, tc⟩
        rw [List.length_map, lb] at tc
        walk_at "rx"
        exact q H4 D4 cs (S.trans S4) hD4 tc (S.free nD4)
def sp_leads (K : PySem.W.Frag) : Sp := fun vs H Q E => ∃ (v1 v2 : V), vs = [v1, v2] ∧ PairS K H v1 v2 E fun _ _ es fs => ∀ H' p, Same H H' → H' p = some (.tup ((ldL es fs).map V.int)) → Q (.ref p) H'
set_option maxHeartbeats 4000000 in
theorem ok_leads (T : Top K mg) {f : Addr} {fd : FuncData} (D : Def K mg "_leads" s_leads ["before", "after"] f fd) : FnOk P w K mg base (L2.CX P w) 5 f fd ["before", "after"] (sp_leads K) := by
  obtain ⟨fcheck_renaming, fdcheck_renaming, Dcheck_renaming⟩ := T.d_check_renaming
  have Gcheck_renaming : FnOk P w K mg base (L2.CX P w) 4 fcheck_renaming fdcheck_renaming ["before", "after"] (spcheck_renaming K) := okcheck_renaming T Dcheck_renaming
  refine D.F.okX sc_leads (fun vs H Q E h => ?_) (fun cdv A outer s H vs Q E hr h => ?_)
  · obtain ⟨v1, v2, rfl, _⟩ := h
    rfl
  · obtain ⟨v1, v2, rfl, hc⟩ := h
    refine ⟨_, (pss_cons (ps_expr (pe_callS Gcheck_renaming hr (by rfl) Dcheck_renaming.g Dcheck_renaming.F.kp Dcheck_renaming.b (fun σ => passAt (takes_of rfl rfl rfl rfl) σ) (pa_cons (pv 0) (pa_cons (pv 1) pa_nil))))
    (pss_one (ps_ret (pe_callTy (r := rTupQ K) call_tupQ (by rfl) T.b_tuple (by decide +kernel) (pa_cons (pe_lc (own := [("entry", 2)]) (g := gName 2) (tt := tYes) rfl sc_leads.nd (pi_tup (pv 1))
      (blkOk_by (own := [("entry", 2)]) (N := ["before", "after", "entry"]) (sc := defScope s_leads) (by decide +kernel)) (fun _ _ _ _ _ => (pg_name (i := 2) sc_leads.nd rfl (.inl rfl))) (fun _ _ _ _ _ => pts_nil)
      (fun _ _ _ _ _ => (pe_ifExp (pt_cmpR op_eq (pv 2) (Rv.pe_k (by rfl) T.k_EMPTY) (nomark _)) (Rv.pe_k (by rfl) T.k_EMPTY) (pe_tix (pv 0) (pv 2))))) pa_nil))))), ?_⟩
    walk_at "rx"
    refine ⟨v1, v2, rfl, ?_⟩
    rcases hc with ⟨a, b, es, fs, rfl, rfl, r, q⟩ | hc
    · refine .inl ⟨a, b, es, fs, rfl, rfl, r, fun H1 S1 => ?_⟩
      have r1 := r.same S1
      have e12 := r.ia.2.1
      have f12 := r.ib.2.1
      have hb1 := r1.tb
      walk_at "rx"
      refine lc_map (walk_tup (xs := fs.map V.int)) ((ldL es fs).map V.int) (by rw [List.length_map, List.length_map]; exact ldL_len es fs) (by rw [List.length_map]; omega) (fun H' S => (hb1.same S).sq) ?_ ?_
      · rintro i x Hx Hy Qc R hi Sx ⟨rfl, ex⟩ qc
        have hi2 : i < fs.length := by rw [List.length_map] at hi; exact hi
        rw [List.getElem?_map, get_at hi2] at ex
        cases ex
        have ga := r1.ga.same Sx
        have il : ((ldL es fs).map V.int)[i]? = some (V.int (if fs.getD i 0 = -1 then -1 else ((es.idxOf (fs.getD i 0) : Nat) : Int))) := by
          unfold ldL
          rw [List.getElem?_map, List.getElem?_map, get_at hi2]
          rfl
        walk_at "rx"
        refine ⟨rfl, ?_⟩
        walk_at "rx"
        by_cases z : fs.getD i 0 = -1
        · rw [decide_eq_true (show V.int (fs.getD i 0) = V.int (-1) from by rw [z])]
          walk_at "rx"
          rw [if_pos z] at il
          exact qc _ _ (Same.refl _) il
        · rw [decide_eq_false (show ¬ V.int (fs.getD i 0) = V.int (-1) from fun w => z (V.int.inj w))]
          walk_at "rx"
          rw [if_neg z] at il
          refine rd_tixI rfl rfl ga (r.rn.pm.mem_iff.mpr (mem_at hi2)) ?_
          exact qc _ _ (Same.refl _) il
      · intro H2 D S2 nD hD
        walk_at "rx"
        refine rd_newL fun H3 p S3 np hp => q H3 p ((S1.trans S2).trans S3) hp
    · exact .inr hc
def springs (K : PySem.W.Frag) : Sp := fun vs H Q E => ∃ (v1 v2 : V), vs = [v1, v2] ∧ PairS K H v1 v2 E fun _ _ es fs => ∀ H' l bs, Same H H' → H' l = some (.lst (bs.map V.ref)) → NRows H' bs ((tops es fs es.length).map (Fo es fs)) → H l = none → Q (.ref l) H'
set_option maxHeartbeats 4000000 in
theorem okrings (T : Top K mg) {f : Addr} {fd : FuncData} (D : Def K mg "rings" srings ["before", "after"] f fd) : FnOk P w K mg base (L2.CX P w) 6 f fd ["before", "after"] (springs K) := by
  obtain ⟨fall_rings, fdall_rings, Dall_rings⟩ := T.d_all_rings
  have Gall_rings : FnOk P w K mg base CX0 2 fall_rings fdall_rings ["leads"] (spall_rings K) := okall_rings T Dall_rings
  obtain ⟨f_leads, fd_leads, D_leads⟩ := T.d__leads
  have G_leads : FnOk P w K mg base (L2.CX P w) 5 f_leads fd_leads ["before", "after"] (sp_leads K) := ok_leads T D_leads
  refine D.F.okX scrings (fun vs H Q E h => ?_) (fun cdv A outer s H vs Q E hr h => ?_)
  · obtain ⟨v1, v2, rfl, _⟩ := h
    rfl
  · obtain ⟨v1, v2, rfl, hc⟩ := h
    refine ⟨_, (pss_one (ps_ret (pe_call Gall_rings (hr.mono (by decide)) (by rfl) Dall_rings.g Dall_rings.F.kp Dall_rings.b .nil pass0 (pa_cons (pe_callS G_leads hr (by rfl) D_leads.g D_leads.F.kp D_leads.b (fun σ => passAt (takes_of rfl rfl rfl rfl) σ) (pa_cons (pv 0) (pa_cons (pv 1) pa_nil))) pa_nil)))), ?_⟩
    walk_at "rx"
    refine ⟨v1, v2, rfl, ?_⟩
    rcases hc with ⟨a, b, es, fs, rfl, rfl, r, q⟩ | hc
    · refine .inl ⟨a, b, es, fs, rfl, rfl, r, fun H1 ld S1 hld => ?_⟩
      walk_at "rx"
      exact ⟨ld, es, fs, rfl, hld, r.rn, r.ia.2.1, fun H2 l bs S2 h2 t2 n2 => q H2 l bs (S1.trans S2) h2 t2 (S1.free n2)⟩
    · exact .inr hc
def sp_is_crowded (_K : PySem.W.Frag) : Sp := fun vs H Q _ => ∃ (a b : Addr) (es fs : List Int), vs = [.ref a, .ref b] ∧ RP H a b es fs ∧ ∀ H', Same H H' → Q (.bl (decide (crowd es fs))) H'
set_option maxHeartbeats 4000000 in
theorem ok_is_crowded (T : Top K mg) {f : Addr} {fd : FuncData} (D : Def K mg "_is_crowded" s_is_crowded ["before", "after"] f fd) : FnOk P w K mg base (L2.CX P w) 7 f fd ["before", "after"] (sp_is_crowded K) := by
  obtain ⟨frings, fdrings, Drings⟩ := T.d_rings
  have Grings : FnOk P w K mg base (L2.CX P w) 6 frings fdrings ["before", "after"] (springs K) := okrings T Drings
  refine D.F.okX sc_is_crowded (fun vs H Q E h => ?_) (fun cdv A outer s H vs Q E hr h => ?_)
  · obtain ⟨a, b, es, fs, rfl, _⟩ := h
    rfl
  · obtain ⟨a, b, es, fs, rfl, r, q⟩ := h
    refine ⟨_, (pss_one (ps_ret (pe_and (pe_cmpR op_eq (pe_tcnt hr.units (pv 0) (Rv.pe_k (by rfl) T.k_EMPTY)) pe_int (nomark _)) (pe_one (pe_cmpR op_gt (pe_callB (r := rLenQ K) call_lenQ (by rfl) T.b_len PySem.boot_len (pa_cons (pe_callS Grings hr (by rfl) Drings.g Drings.F.kp Drings.b (fun σ => passAt (takes_of rfl rfl rfl rfl) σ) (pa_cons (pv 0) (pa_cons (pv 1) pa_nil))) pa_nil)) pe_int (nomark _)))))), ?_⟩
    walk_at "rx"
    refine rd_tcC rfl r.ga ?_
    walk_at "rx"
    by_cases z : es.count (-1) = 1
    · rw [decide_eq_true (show V.int ((es.count (-1) : Nat) : Int) = V.int 1 by rw [z]; rfl)]
      walk_at "rx"
      refine ⟨_, _, rfl, .inl ⟨a, b, es, fs, rfl, rfl, r, fun H1 l bs S1 hl tb _ => ?_⟩⟩
      have lb := NRows.len tb
      have ls2 : (tops es fs es.length).length ≤ es.length := by
        have := List.length_filter_le (fun b => decide (IsR (G es fs) (Fo es fs b))) (List.range es.length)
        rw [List.length_range] at this
        exact this
      have e12 := r.ia.2.1
      rw [List.length_map] at lb
      walk_at "rx"
      have := q _ S1
      have e : decide ((0 : Int) < (((bs.map V.ref).length : Nat) : Int)) = decide (crowd es fs) := by
        rw [decide_eq_decide, List.length_map, lb]
        unfold crowd rngs
        refine ⟨fun h => ⟨z, fun k => ?_⟩, fun h => ?_⟩
        · rw [List.map_eq_nil_iff.mp k] at h
          exact absurd h (by decide)
        · have : (tops es fs es.length).length ≠ 0 := fun k => h.2 (by rw [List.length_eq_zero_iff.mp k]; rfl)
          omega
      rw [e]
      exact this
    · rw [decide_eq_false (show ¬ V.int ((es.count (-1) : Nat) : Int) = V.int 1 from fun w => z (by have := V.int.inj w; omega))]
      walk_at "rx"
      have := q _ (Same.refl _)
      rw [decide_eq_false (fun w => z w.1)] at this
      exact this
def spobstacle (K : PySem.W.Frag) : Sp := fun vs H Q E => ∃ (v1 v2 : V), vs = [v1, v2] ∧ PairS K H v1 v2 E fun _ _ es fs => ObQ K H Q E es fs
set_option maxHeartbeats 4000000 in
theorem okobstacle (T : Top K mg) {f : Addr} {fd : FuncData} (D : Def K mg "obstacle" sobstacle ["before", "after"] f fd) : FnOk P w K mg base (L2.CX P w) 8 f fd ["before", "after"] (spobstacle K) := by
  obtain ⟨fE_Undecided, fdE_Undecided, ET_Undecided, FE_Undecided, bE_Undecided⟩ := T.e_Undecided
  have GI_Undecided := okInit_Undecided (P := P) (w := w) (base := base) ET_Undecided FE_Undecided
  obtain ⟨fcheck_renaming, fdcheck_renaming, Dcheck_renaming⟩ := T.d_check_renaming
  have Gcheck_renaming : FnOk P w K mg base (L2.CX P w) 4 fcheck_renaming fdcheck_renaming ["before", "after"] (spcheck_renaming K) := okcheck_renaming T Dcheck_renaming
  obtain ⟨f_is_of_one_kind, fd_is_of_one_kind, D_is_of_one_kind⟩ := T.d__is_of_one_kind
  have G_is_of_one_kind : FnOk P w K mg base CX0 5 f_is_of_one_kind fd_is_of_one_kind ["image"] (sp_is_of_one_kind K) := ok_is_of_one_kind T D_is_of_one_kind
  obtain ⟨flook, fdlook, Dlook⟩ := T.d_look
  have Glook : FnOk P w K mg base CX0 4 flook fdlook ["image"] (splook K) := oklook T Dlook
  obtain ⟨f_is_crowded, fd_is_crowded, D_is_crowded⟩ := T.d__is_crowded
  have G_is_crowded : FnOk P w K mg base (L2.CX P w) 7 f_is_crowded fd_is_crowded ["before", "after"] (sp_is_crowded K) := ok_is_crowded T D_is_crowded
  obtain ⟨frings, fdrings, Drings⟩ := T.d_rings
  have Grings : FnOk P w K mg base (L2.CX P w) 6 frings fdrings ["before", "after"] (springs K) := okrings T Drings
  refine D.F.okX scobstacle (fun vs H Q E h => ?_) (fun cdv A outer s H vs Q E hr h => ?_)
  · obtain ⟨v1, v2, rfl, _⟩ := h
    rfl
  · obtain ⟨v1, v2, rfl, hc⟩ := h
    refine ⟨_, (pss_cons (ps_expr (pe_callS Gcheck_renaming (hr.mono (by decide)) (by rfl) Dcheck_renaming.g Dcheck_renaming.F.kp Dcheck_renaming.b (fun σ => passAt (takes_of rfl rfl rfl rfl) σ) (pa_cons (pv 0) (pa_cons (pv 1) pa_nil))))
    (pss_cons (ps_if (pt_cmpR (op_eqD hr.units) (pv 0) (pv 1) (nomark _)) (pss_one (ps_ret pe_non)) pss_nil)
    (pss_cons (ps_if (pt_cmpR (r := rIn K true) op_notIn_seq (Rv.pe_k (by rfl) T.k_EMPTY) (pv 0) (by rfl)) (pss_one (ps_ret (pe_tup (pa_cons pe_str pa_nil)))) pss_nil)
    (pss_cons (ps_if (pt_cmpR op_eq (pe_call Glook (hr.mono (by decide)) (by rfl) Dlook.g Dlook.F.kp Dlook.b .nil pass0 (pa_cons (pv 0) pa_nil)) (pe_call Glook (hr.mono (by decide)) (by rfl) Dlook.g Dlook.F.kp Dlook.b .nil pass0 (pa_cons (pv 1) pa_nil)) (nomark _)) (pss_one (ps_ret (pe_tup (pa_cons pe_str pa_nil)))) pss_nil)
    (pss_cons (ps_if (pt_not (pt_val (pe_callS G_is_crowded hr (by rfl) D_is_crowded.g D_is_crowded.F.kp D_is_crowded.b (fun σ => passAt (takes_of rfl rfl rfl rfl) σ) (pa_cons (pv 0) (pa_cons (pv 1) pa_nil))))) (pss_one (ps_ret pe_non)) pss_nil)
    (pss_cons (ps_set (i := 2) scobstacle.nd rfl (.inl rfl) (pe_callTy (r := rTupQ K) call_tupQ (by rfl) T.b_tuple (by decide +kernel) (pa_cons (pe_callS Grings (hr.mono (by decide)) (by rfl) Drings.g Drings.F.kp Drings.b (fun σ => passAt (takes_of rfl rfl rfl rfl) σ) (pa_cons (pv 0) (pa_cons (pv 1) pa_nil))) pa_nil)))
    (pss_cons (ps_if (pt_val (pe_call G_is_of_one_kind (hr.mono (by decide)) (by rfl) D_is_of_one_kind.g D_is_of_one_kind.F.kp D_is_of_one_kind.b .nil pass0 (pa_cons (pv 0) pa_nil))) (pss_one (ps_ret (pe_tup (pa_cons pe_str (pa_cons (pv 2) pa_nil))))) pss_nil)
    (pss_one (ps_raiseQ rfl (takes_of rfl rfl rfl rfl) (pmk_oex ET_Undecided.ox ET_Undecided.iC ET_Undecided.tI GI_Undecided (hr.mono (by decide)) bE_Undecided .nil pass0 (by rfl) ET_Undecided.gC (pa_cons (pv 2) pa_nil))))))))))), ?_⟩
    walk_at "rx"
    refine ⟨v1, v2, rfl, ?_⟩
    rcases hc with ⟨a, b, es, fs, rfl, rfl, r, q⟩ | hc
    · refine .inl ⟨a, b, es, fs, rfl, rfl, r, fun H1 S1 => ?_⟩
      have r1 := r.same S1
      walk_at "rx"
      refine rd_eqI r1.ta r1.tb ?_
      by_cases e0 : es = fs
      · rw [decide_eq_true e0]
        walk_at "rx"
        exact q.q0 (if_pos e0) _ S1
      · rw [decide_eq_false e0]
        walk_at "rx"
        refine rd_ninO r1.ta rfl ?_
        rw [inV_ints]
        by_cases e1 : (-1 : Int) ∈ es
        · rw [decide_eq_true e1]
          walk_at "rx"
          refine ⟨a, es, rfl, r1.ta, r1.ia, fun H2 S2 => ?_⟩
          have r2 := r1.same S2
          walk_at "rx"
          refine ⟨b, fs, rfl, r2.tb, r2.ib, fun H3 S3 => ?_⟩
          have r3 := r2.same S3
          have S13 := (S1.trans S2).trans S3
          walk_at "rx"
          by_cases e2 : codes es = codes fs
          · rw [decide_eq_true (show V.str (txt (codes es)) = V.str (txt (codes fs)) by rw [e2])]
            walk_at "rx"
            refine rd_newQ (by simp) fun H4 p S4 nP hP => ?_
            exact q.q1 2 (by unfold vdt; rw [if_neg e0, if_neg (fun w => w e1), if_pos e2]) (by decide) (by decide) _ _ (S13.trans S4) (.inr (.inl ⟨rfl, hP⟩))
          · rw [decide_eq_false (show ¬ V.str (txt (codes es)) = V.str (txt (codes fs)) from fun w => e2 (txt_inj (V.str.inj w)))]
            walk_at "rx"
            refine ⟨a, b, es, fs, rfl, r3, fun H4 S4 => ?_⟩
            have r4 := r3.same S4
            have S14 := S13.trans S4
            walk_at "rx"
            by_cases e3 : crowd es fs
            · rw [decide_eq_true e3]
              walk_at "rx"
              refine ⟨_, _, rfl, .inl ⟨a, b, es, fs, rfl, rfl, r4, fun H5 l bs S5 hl tb _ => ?_⟩⟩
              have r5 := r4.same S5
              walk_at "rx"
              refine rd_newL fun H6 t S6 nT hT => ?_
              have r6 := r5.same S6
              have tb6 := TupsAt.same S6 tb
              have S16 := (S14.trans S5).trans S6
              walk_at "rx"
              refine ⟨a, es, rfl, r6.ta, r6.ia, fun H7 S7 => ?_⟩
              have hT7 := S7 _ _ hT
              have tb7 := TupsAt.same S7 tb6
              have S17 := S16.trans S7
              walk_at "rx"
              by_cases e4 : mono es
              · rw [decide_eq_true e4]
                walk_at "rx"
                refine rd_newQ (by simp) fun H8 p S8 nP hP => ?_
                exact q.q1 3 (by unfold vdt; rw [if_neg e0, if_neg (fun w => w e1), if_neg e2, if_neg (fun w => w e3), if_pos e4]) (by decide) (by decide) _ _ (S17.trans S8) (.inr (.inr ⟨rfl, t, bs, hP, S8 _ _ hT7, TupsAt.same S8 tb7⟩))
              · rw [decide_eq_false e4]
                walk_at "rx"
                exact mkErr fun H8 d S8 hd => q.q4 (by unfold vdt; rw [if_neg e0, if_neg (fun w => w e1), if_neg e2, if_neg (fun w => w e3), if_neg e4]) H8 d t bs (S17.trans S8) hd (S8 _ _ hT7) (TupsAt.same S8 tb7)
            · rw [decide_eq_false e3]
              walk_at "rx"
              exact q.q0 (by unfold vdt; rw [if_neg e0, if_neg (fun w => w e1), if_neg e2, if_pos e3]) _ S14
        · rw [decide_eq_false e1]
          walk_at "rx"
          refine rd_newQ (by simp) fun H4 p S4 nP hP => ?_
          exact q.q1 1 (by unfold vdt; rw [if_neg e0, if_pos e1]) (by decide) (by decide) _ _ (S1.trans S4) (.inl ⟨rfl, hP⟩)
    · exact .inr hc
def sp_law_obstacle (_K : PySem.W.Frag) : Sp := fun vs H Q _ => ∃ (a b : Addr) (es fs : List Int), vs = [.ref a, .ref b] ∧ RP H a b es fs ∧ (vdt es fs = 0 → ∀ H' l, Same H H' → H' l = some (.lst [.int 0, .non]) → Q (.ref l) H') ∧ (∀ k, vdt es fs = k → k ≠ 0 → k ≠ 4 → ∀ H' l p, Same H H' → H' l = some (.lst [.int 0, .ref p]) → RsnAt H' p k es fs → Q (.ref l) H') ∧ (vdt es fs = 4 → ∀ H' l t bs, Same H H' → H' l = some (.lst [.int 2, .ref t]) → H' t = some (.tup (bs.map V.ref)) → NRows H' bs (rngs es fs) → Q (.ref l) H')
set_option maxHeartbeats 4000000 in
theorem ok_law_obstacle (T : Top K mg) {f : Addr} {fd : FuncData} (D : Def K mg "_law_obstacle" s_law_obstacle ["before", "after"] f fd) : FnOk P w K mg base CX0 9 f fd ["before", "after"] (sp_law_obstacle K) := by
  obtain ⟨fE_Undecided, fdE_Undecided, ET_Undecided, FE_Undecided, bE_Undecided⟩ := T.e_Undecided
  have GI_Undecided := okInit_Undecided (P := P) (w := w) (base := base) ET_Undecided FE_Undecided
  obtain ⟨fobstacle, fdobstacle, Dobstacle⟩ := T.d_obstacle
  have Gobstacle : FnOk P w K mg base (L2.CX P w) 8 fobstacle fdobstacle ["before", "after"] (spobstacle K) := okobstacle T Dobstacle
  refine D.F.ok sc_law_obstacle (fun vs H Q E h => ?_) (fun cdv A outer s H vs Q E hr h => ?_)
  · obtain ⟨a, b, es, fs, rfl, _⟩ := h
    rfl
  · obtain ⟨a, b, es, fs, rfl, r, q0, q1, q4⟩ := h
    refine ⟨_, (pss_one (ps_tryM [(.ref (atTop K "Undecided"), 2, _)] (_) rfl rfl sc_law_obstacle.nd (fun W pn xe tk => (pss_one (ps_ret (pe_lst (pa_cons pe_int (pa_cons (pe_callS Gobstacle hr (by rfl) Dobstacle.g Dobstacle.F.kp Dobstacle.b (fun σ => passAt tk σ) (pa_cons (pv 0) (pa_cons (pv 1) pa_nil))) pa_nil)))))) (.cons ⟨rfl, by decide, .inl ET_Undecided.gC⟩ rfl rfl (fun a oe cls d pn hz hf => (pss_cons (ps_if (PW.pt (pw_or (pt_not (pt_val (pe_callB (call_isX ET_Undecided.ec ET_Undecided.icl hz hf) (by rfl) T.b_isinstance (by decide +kernel) (pa_cons (pv 2) (pa_cons (Rv.pe_k (by rfl) T.c_RedoError) pa_nil))))) (pw_or1 (pt_val (pe_callB (call_isX ET_Undecided.ec ET_Undecided.icl hz hf) (by rfl) T.b_isinstance (by decide +kernel) (pa_cons (pv 2) (pa_cons (Rv.pe_k (by rfl) T.c_NoPlan) pa_nil))))))) (pss_one (ps_ret (pe_lst (pa_cons pe_int (pa_cons (pe_tup pa_nil) pa_nil))))) pss_nil)
    (pss_one (ps_ret (pe_lst (pa_cons pe_int (pa_cons (pe_xf ET_Undecided.xf ET_Undecided.noN hz hf (pv 2)) pa_nil))))))) .nil))), ?_⟩
    walk_at "rx"
    refine ⟨.ref a, .ref b, rfl, .inl ⟨a, b, es, fs, rfl, rfl, r, ?_⟩⟩
    refine ⟨fun v H1 S1 => ?_, fun k v k0 k4 H1 p S1 hp => ?_, fun v H1 d t bs S1 hd ht tb => ?_⟩
    · walk_at "rx"
      refine rd_newQ (by simp) fun H2 L S2 nL hL => ?_
      exact q0 v H2 L (S1.trans S2) hL
    · walk_at "rx"
      refine rd_newQ (by simp) fun H2 L S2 nL hL => ?_
      exact q1 k v k0 k4 H2 L p (S1.trans S2) hL (hp.same S2)
    · refine ⟨true, T.x_Undecided_Undecided, iteT fun a na => ?_⟩
      walk_at "rx"
      refine ⟨.ref (atTop K "RedoError"), .ref (atTop K "RedoError"), true, d, _, rfl, fun u h => h, T.k_Undecided_RedoError, rfl, rfl, hd, ?_⟩
      walk_at "rx"
      refine ⟨.ref (atTop K "NoPlan"), .ref (atTop K "NoPlan"), false, d, _, rfl, fun u h => h, T.k_Undecided_NoPlan, rfl, rfl, hd, ?_⟩
      walk_at "rx"
      refine ⟨rfl, rfl, d, _, .ref t, rfl, hd, by simp [List.lookup], ?_⟩
      walk_at "rx"
      refine rd_newQ (by simp) fun H2 L S2 nL hL => ?_
      exact q4 v H2 L t bs (S1.trans S2) hL (S2 _ _ ht) (NRows.same tb S2)
def sp_law_any_reason (_K : PySem.W.Frag) : Sp := fun vs H Q _ => ∃ (B : Box) (a b : Addr) (es fs : List Int), vs = [.ref B.b, .ref a, .ref b] ∧ IsBk B ∧ B.I H ∧ RP H a b es fs ∧ ∀ H' v z, Wg B H H' → RsAt H' v z → Few z → Q v H'
set_option maxHeartbeats 4000000 in
theorem ok_law_any_reason (T : Top K mg) {f : Addr} {fd : FuncData} (D : Def K mg "_law_any_reason" s_law_any_reason ["box", "before", "after"] f fd) : FnOk P w K mg base CX0 3 f fd ["box", "before", "after"] (sp_law_any_reason K) := by
  obtain ⟨f_law_take, fd_law_take, D_law_take⟩ := T.d__law_take
  have G_law_take : FnOk P w K mg base CX0 1 f_law_take fd_law_take ["box", "limit"] (sp_law_take K) := ok_law_take T D_law_take
  obtain ⟨f_law_loops, fd_law_loops, D_law_loops⟩ := T.d__law_loops
  have G_law_loops : FnOk P w K mg base CX0 2 f_law_loops fd_law_loops ["before", "after"] (sp_law_loops K) := ok_law_loops T D_law_loops
  refine D.F.ok sc_law_any_reason (fun vs H Q E h => ?_) (fun cdv A outer s H vs Q E hr h => ?_)
  · obtain ⟨B, a, b, es, fs, rfl, _⟩ := h
    rfl
  · obtain ⟨B, a, b, es, fs, rfl, hB, i0, r, q0⟩ := h
    have q : ∀ H' v, Wg B H H' → (∃ z, RsAt H' v z ∧ Few z) → Q v H' := fun H' v w ⟨z, h1, h2⟩ => q0 H' v z w h1 h2
    have n1 := r.ia.1
    have n12 := r.ia.2.1
    refine ⟨_, (pss_cons (ps_set (i := 3) sc_law_any_reason.nd rfl (.inl rfl) (pe_call G_law_take (hr.mono (by decide)) (by rfl) D_law_take.g D_law_take.F.kp D_law_take.b .nil pass0 (pa_cons (pv 0) (pa_cons pe_int pa_nil))))
    (pss_cons (ps_set (i := 4) sc_law_any_reason.nd rfl (.inl rfl) (pe_call G_law_loops hr (by rfl) D_law_loops.g D_law_loops.F.kp D_law_loops.b .nil pass0 (pa_cons (pv 1) (pa_cons (pv 2) pa_nil))))
    (pss_cons (ps_set (i := 5) sc_law_any_reason.nd rfl (.inl rfl) (pe_call G_law_take (hr.mono (by decide)) (by rfl) D_law_take.g D_law_take.F.kp D_law_take.b .nil pass0 (pa_cons (pv 0) (pa_cons (pe_callB (r := rLenQ K) call_lenQ (by rfl) T.b_len PySem.boot_len (pa_cons (pv 1) pa_nil)) pa_nil))))
    (pss_cons (ps_set (i := 6) sc_law_any_reason.nd rfl (.inl rfl) (pe_call G_law_take (hr.mono (by decide)) (by rfl) D_law_take.g D_law_take.F.kp D_law_take.b .nil pass0 (pa_cons (pv 0) (pa_cons (pe_callB (r := rLenQ K) call_lenQ (by rfl) T.b_len PySem.boot_len (pa_cons (pv 1) pa_nil)) pa_nil))))
    (pss_cons (ps_set (i := 7) sc_law_any_reason.nd rfl (.inl rfl) (pe_lst pa_nil))
    (C8.pss_cut (ps_if (pt_cmpR (op_neD hr.units) (pv 4) (pe_lst pa_nil) (nomark _)) (pss_one (ps_set (i := 7) sc_law_any_reason.nd rfl (.inl rfl) (pe_lst (pa_cons (pe_ix (r := rIxL K) ix_list (pv 4) (pe_call G_law_take (hr.mono (by decide)) (by rfl) D_law_take.g D_law_take.F.kp D_law_take.b .nil pass0 (pa_cons (pv 0) (pa_cons (pe_callB (r := rLenQ K) call_lenQ (by rfl) T.b_len PySem.boot_len (pa_cons (pv 4) pa_nil)) pa_nil))) (fun _ _ => rfl)) pa_nil)))) pss_nil)
    (pss_cons (ps_if (pt_cmpR op_lt (pv 3) pe_int (nomark _)) (pss_one (ps_ret (pe_ix (r := rIxL K) ix_list (pe_lst (pa_cons (pe_tup (pa_cons pe_str pa_nil)) (pa_cons (pe_tup (pa_cons pe_str pa_nil)) (pa_cons (pe_tup (pa_cons pe_str pa_nil)) pa_nil)))) (pv 3) (fun _ _ => rfl)))) pss_nil)
    (pss_cons (ps_if (pt_cmpR op_eq (pv 3) pe_int (nomark _)) (pss_one (ps_ret (pe_tup (pa_cons pe_str (pa_cons (pe_callTy (r := rTupQ K) call_tupQ (by rfl) T.b_tuple (by decide +kernel) (pa_cons (pe_revL (pv 4)) pa_nil)) pa_nil))))) pss_nil)
    (pss_cons (ps_if (pt_cmpR op_eq (pv 3) pe_int (nomark _)) (pss_one (ps_ret (pe_tup (pa_cons pe_str (pa_cons (pe_callTy (r := rTupQ K) call_tupQ (by rfl) T.b_tuple (by decide +kernel) (pa_cons (pe_op op_cat (pv 7) (pv 4)) pa_nil)) pa_nil))))) pss_nil)
    (pss_cons (ps_if (pt_cmpR op_eq (pv 3) pe_int (nomark _)) (pss_one (ps_ret (pe_tup (pa_cons pe_str (pa_cons (pe_tup pa_nil) pa_nil))))) pss_nil)
    (pss_cons (ps_if (pt_cmpR op_eq (pv 3) pe_int (nomark _)) (pss_one (ps_ret (pe_tup (pa_cons pe_str (pa_cons (pe_callTy (r := rLstQ K) call_lstQ (by rfl) T.b_list (by decide +kernel) (pa_cons (pv 4) pa_nil)) pa_nil))))) pss_nil)
    (pss_cons (ps_if (pt_cmpR op_eq (pv 3) pe_int (nomark _)) (pss_one (ps_ret (pe_tup (pa_cons pe_str (pa_cons (pe_callTy (r := rTupQ K) call_tupQ (by rfl) T.b_tuple (by decide +kernel) (pa_cons (pe_lc (own := [("row", 8)]) (g := gName 8) (tt := tYes) rfl sc_law_any_reason.nd (pi_list (pv 7))
      (blkOk_by (own := [("row", 8)]) (N := ["box", "before", "after", "way", "loops", "one", "two", "some", "row"]) (sc := defScope s_law_any_reason) (by decide +kernel)) (fun _ _ _ _ _ => (pg_name (i := 8) sc_law_any_reason.nd rfl (.inl rfl))) (fun _ _ _ _ _ => pts_nil)
      (fun _ _ _ _ _ => (pe_op (r := rCat3 K) op_cat3 (pe_slice (r := rSlT K) sl_tup (pv 8) (po_some pe_int) po_none) (pe_slice (r := rSlT K) sl_tup (pv 8) po_none (po_some pe_int))))) pa_nil)) pa_nil))))) pss_nil)
    (pss_cons (ps_if (pt_cmpR op_eq (pv 3) pe_int (nomark _)) (pss_one (ps_ret (pe_tup (pa_cons pe_str (pa_cons (pe_tup (pa_cons (pe_tup (pa_cons (pv 5) (pa_cons (pv 6) pa_nil))) pa_nil)) pa_nil))))) pss_nil)
    (pss_cons (ps_if (pt_cmpR op_eq (pv 3) pe_int (nomark _)) (pss_one (ps_ret (pe_tup (pa_cons pe_str (pa_cons (pe_callTy (r := rTupQ K) call_tupQ (by rfl) T.b_tuple (by decide +kernel) (pa_cons (pe_op op_cat (pv 4) (pe_lst (pa_cons (pe_tup (pa_cons (pv 5) (pa_cons (pv 6) pa_nil))) pa_nil))) pa_nil)) pa_nil))))) pss_nil)
    (pss_cons (ps_if (pt_cmpR op_eq (pv 3) pe_int (nomark _)) (pss_one (ps_ret (pe_tup (pa_cons pe_str pa_nil)))) pss_nil)
    (pss_cons (ps_if (pt_cmpR op_eq (pv 3) pe_int (nomark _)) (pss_one (ps_ret (pe_tup (pa_cons pe_str (pa_cons (pe_callTy (r := rTupQ K) call_tupQ (by rfl) T.b_tuple (by decide +kernel) (pa_cons (pv 4) pa_nil)) pa_nil))))) pss_nil)
    (pss_cons (ps_if (pt_cmpR op_eq (pv 3) pe_int (nomark _)) (pss_one (ps_ret (pe_tup (pa_cons pe_str (pa_cons (pe_callTy (r := rTupQ K) call_tupQ (by rfl) T.b_tuple (by decide +kernel) (pa_cons (pv 7) pa_nil)) pa_nil))))) pss_nil)
    (pss_cons (ps_if (pt_cmpR op_eq (pv 3) pe_int (nomark _)) (pss_one (ps_ret pe_non)) pss_nil)
    (pss_cons (ps_if (pt_cmpR op_eq (pv 3) pe_int (nomark _)) (pss_one (ps_ret (pe_tup pa_nil))) pss_nil)
    (pss_cons (ps_if (pt_cmpR op_eq (pv 3) pe_int (nomark _)) (pss_one (ps_ret (pe_tup (pa_cons (pv 5) pa_nil)))) pss_nil)
    (pss_cons (ps_if (pt_cmpR op_eq (pv 3) pe_int (nomark _)) (pss_one (ps_ret (pe_tup (pa_cons pe_str (pa_cons pe_non pa_nil))))) pss_nil)
    (pss_cons (ps_if (pt_cmpR op_eq (pv 3) pe_int (nomark _)) (pss_one (ps_ret (pe_tup (pa_cons pe_str (pa_cons (pe_tup (pa_cons (pv 5) (pa_cons (pv 6) pa_nil))) pa_nil))))) pss_nil)
    (pss_cons (ps_if (pt_cmpR op_eq (pv 3) pe_int (nomark _)) (pss_one (ps_ret (pe_tup (pa_cons pe_str (pa_cons (pe_callTy (r := rTupQ K) call_tupQ (by rfl) T.b_tuple (by decide +kernel) (pa_cons (pe_lc (own := [("row", 8)]) (g := gName 8) (tt := tYes) rfl sc_law_any_reason.nd (pi_list (pv 4))
      (blkOk_by (own := [("row", 8)]) (N := ["box", "before", "after", "way", "loops", "one", "two", "some", "row"]) (sc := defScope s_law_any_reason) (by decide +kernel)) (fun _ _ _ _ _ => (pg_name (i := 8) sc_law_any_reason.nd rfl (.inl rfl))) (fun _ _ _ _ _ => pts_nil)
      (fun _ _ _ _ _ => (pe_callTy (r := rLstQ K) call_lstQ (by rfl) T.b_list (by decide +kernel) (pa_cons (pv 8) pa_nil)))) pa_nil)) pa_nil))))) pss_nil)
    (pss_one (ps_ret (pe_tup (pa_cons pe_str (pa_cons (pe_callTy (r := rTupQ K) call_tupQ (by rfl) T.b_tuple (by decide +kernel) (pa_cons (pv 4) pa_nil)) pa_nil)))))))))))))))))))))))))))), ?_⟩
    walk_at "rx"
    refine ⟨B, 20, rfl, hB, i0, by decide, by decide, fun H1 way w1 hway => ?_⟩
    have r1 : RP H1 a b es fs := ⟨r.ga.wg w1, r.gb.wg w1, r.ia, r.ib, r.rn⟩
    walk_at "rx"
    refine ⟨a, b, es, fs, rfl, r1, fun H2 l bs S2 hl tb => ?_⟩
    have w2 := w1.same S2
    have r2 := r1.same S2
    have lb := NRows.len tb
    have few := rngs_few (es := es) (fs := fs)
    have ga2 := r2.ga
    walk_at "rx"
    refine ⟨B, ((es.length : Nat) : Int), rfl, hB, w2.i1, by omega, by omega, fun H3 one w3 hone => ?_⟩
    have ga3 := ga2.wg w3
    walk_at "rx"
    refine ⟨B, ((es.length : Nat) : Int), rfl, hB, w3.i1, by omega, by omega, fun H4 two w4 htwo => ?_⟩
    have w34 := w3.trans w4
    have hl4 := w34.lst (bk_ne hB w2.i1 hl) hl
    have tb4 : NRows H4 bs (rngs es fs) := TupsAt.wg w34 tb
    walk_at "rx"
    refine rd_newQ (by simp) fun H5 sm0 S5 nsm0 hsm0 => ?_
    have hl5 := S5 _ _ hl4
    have tb5 := NRows.same tb4 S5
    have w5 := (w2.trans w34).same S5
    walk_at "rx"
    refine ⟨fun σ' H' => ∃ (sm : Addr) (rs : List Addr) (ps : List (List Nat)), σ' = [some (.ref B.b), some (.ref a), some (.ref b), some (.int (way : Int)), some (.ref l), some (.int (one : Int)), some (.int (two : Int)), some (.ref sm), none] ∧ Wg B H H' ∧ H' l = some (.lst (bs.map V.ref)) ∧ NRows H' bs (rngs es fs) ∧ H' sm = some (.lst (rs.map V.ref)) ∧ NRows H' rs ps ∧ ps.length ≤ 1 ∧ (∀ p ∈ ps, 1 < p.length ∧ p.length ≤ 12), ?_, ?_⟩
    · walk_at "rx"
      refine rd_newQ (by simp) fun H6 e6 S6 ne6 he6 => ?_
      have hl6 := S6 _ _ hl5
      have tb6 := NRows.same tb5 S6
      have w6 := w5.same S6
      refine rd_neRN hl6 tb6 he6 ?_
      by_cases e0 : rngs es fs = []
      · rw [decide_eq_true e0]
        walk_at "rx"
        exact ⟨sm0, [], [], rfl, w6, hl6, tb6, S6 _ _ hsm0, TupsAt.nil, Nat.zero_le _, fun p hp => nomatch hp⟩
      · rw [decide_eq_false e0]
        have pos : 0 < (rngs es fs).length := List.length_pos_iff.mpr e0
        walk_at "rx"
        refine ⟨B, ((bs.length : Nat) : Int), by rw [List.length_map], hB, w6.i1, by omega, by omega, fun H7 d w7 hd => ?_⟩
        have hl7 := w7.lst (bk_ne hB w6.i1 hl6) hl6
        have tb7 : NRows H7 bs (rngs es fs) := TupsAt.wg w7 tb6
        have eb : bs[d]? = some bs[d] := List.getElem?_eq_getElem (by omega)
        obtain ⟨p, e1, e2⟩ := NRows.get tb7 eb
        have ax : atI (bs.map V.ref) (d : Int) = some (.ref bs[d]) := atI_nat (by rw [List.getElem?_map, eb]; rfl)
        generalize bs[d] = c at *
        walk_at "rx"
        refine rd_newQ (by simp) fun H8 sm S8 nsm hsm => ?_
        walk_at "rx"
        refine ⟨sm, [c], [p], rfl, (w6.trans w7).same S8, S8 _ _ hl7, NRows.same tb7 S8, hsm, NRows.mk rfl fun i b2 p2 h1 h2 => ?_, by simp, fun p2 hp2 => ?_⟩
        · cases i with
          | zero => cases h1; cases h2; exact S8 _ _ e2
          | succ i => simp at h1
        · rw [List.mem_singleton.mp hp2]
          have mp := List.mem_of_getElem? e1
          refine ⟨?_, Nat.le_trans (rngs_len r.rn mp) n12⟩
          obtain ⟨b0, hb0, ep⟩ := List.mem_map.mp mp
          rw [← ep]
          exact (mem_tops.mp hb0).2.1
    rintro σ' H6 ⟨sm, rs, ps, rfl, w6, hl6, tb6, hsm, tr, p1, p2⟩
    have lr := NRows.len tr
    have okR : PyData.strOk (Str.ofString "rings") = true := by decide +kernel
    have okF : PyData.strOk (Str.ofString "full") = true := by decide +kernel
    have lm : ((rngs es fs).map It.row).length ≤ 40 := by rw [List.length_map]; omega
    walk_at "rx"
    by_cases lt3 : (way : Int) < 3
    · rw [decide_eq_true lt3]
      walk_at "rx"
      refine rd_newQ (by simp) fun H7 p1 S7 n7 h7 => ?_
      walk_at "rx"
      refine rd_newQ (by simp) fun H8 p2 S8 n8 h8 => ?_
      walk_at "rx"
      refine rd_newQ (by simp) fun H9 p3 S9 n9 h9 => ?_
      walk_at "rx"
      refine rd_newQ (by simp) fun Ha L Sa na ha => ?_
      have w9 := (((w6.same S7).same S8).same S9).same Sa
      have k1 := Sa _ _ (S9 _ _ (S8 _ _ h7))
      have k2 := Sa _ _ (S9 _ _ h8)
      have k3 := Sa _ _ h9
      walk_at "rx"
      have c : way = 0 ∨ way = 1 ∨ way = 2 := by omega
      rcases c with rfl | rfl | rfl
      · refine rd_ixM ha (show atI [V.ref p1, V.ref p2, V.ref p3] ((0 : Nat) : Int) = some (.ref p1) from rfl) ?_
        exact q _ _ w9 (rs_word k1 (by decide +kernel))
      · refine rd_ixM ha (show atI [V.ref p1, V.ref p2, V.ref p3] ((1 : Nat) : Int) = some (.ref p2) from rfl) ?_
        exact q _ _ w9 (rs_word k2 (by decide +kernel))
      · refine rd_ixM ha (show atI [V.ref p1, V.ref p2, V.ref p3] ((2 : Nat) : Int) = some (.ref p3) from rfl) ?_
        exact q _ _ w9 (rs_word k3 (by decide +kernel))
    rw [decide_eq_false lt3]
    walk_at "rx"
    by_cases c3 : way = 3
    · rw [decide_eq_true (show V.int (way : Int) = V.int 3 by rw [c3]; rfl)]
      walk_at "rx"
      refine rd_revL ?_
      walk_at "rx"
      refine rd_RvL hl6 ?_
      refine rd_newL fun H7 m S7 nm hm => ?_
      have tr7 := NRows.rev (NRows.same tb6 S7)
      rw [← List.map_reverse] at hm
      walk_at "rx"
      refine rd_newL fun H8 t S8 nt ht => ?_
      walk_at "rx"
      refine rd_newQ (by simp) fun H9 u S9 nu hu => ?_
      exact q _ _ (((w6.same S7).same S8).same S9) (rs_tup hu okR (S9 _ _ ht) (its_rows (NRows.same tr7 (S8.trans S9))) (by rw [List.length_map, List.length_reverse]; omega))
    rw [decide_eq_false (show ¬ V.int (way : Int) = V.int 3 from fun w => c3 (by have := V.int.inj w; omega))]
    walk_at "rx"
    by_cases c4 : way = 4
    · rw [decide_eq_true (show V.int (way : Int) = V.int 4 by rw [c4]; rfl)]
      walk_at "rx"
      refine rd_catLN hsm hl6 (by rw [List.length_map, List.length_map]; omega) ?_
      refine rd_newL fun H7 m S7 nm hm => ?_
      have t7 := NRows.cat (NRows.same tr S7) (NRows.same tb6 S7)
      rw [← List.map_append] at hm
      walk_at "rx"
      refine rd_newL fun H8 t S8 nt ht => ?_
      walk_at "rx"
      refine rd_newQ (by simp) fun H9 u S9 nu hu => ?_
      exact q _ _ (((w6.same S7).same S8).same S9) (rs_tup hu okR (S9 _ _ ht) (its_rows (NRows.same t7 (S8.trans S9))) (by rw [List.length_map, List.length_append]; omega))
    rw [decide_eq_false (show ¬ V.int (way : Int) = V.int 4 from fun w => c4 (by have := V.int.inj w; omega))]
    walk_at "rx"
    by_cases c5 : way = 5
    · rw [decide_eq_true (show V.int (way : Int) = V.int 5 by rw [c5]; rfl)]
      walk_at "rx"
      refine rd_newQ (by simp) fun H7 t S7 nt ht => ?_
      walk_at "rx"
      refine rd_newQ (by simp) fun H8 u S8 nu hu => ?_
      exact q _ _ ((w6.same S7).same S8) (rs_tup hu okR (S8 _ _ ht) (((show ItsAt H7 [] [] from ⟨rfl, fun i x t k => by simp at k⟩)).same S8) (by simp))
    rw [decide_eq_false (show ¬ V.int (way : Int) = V.int 5 from fun w => c5 (by have := V.int.inj w; omega))]
    walk_at "rx"
    by_cases c6 : way = 6
    · rw [decide_eq_true (show V.int (way : Int) = V.int 6 by rw [c6]; rfl)]
      walk_at "rx"
      refine rd_newL fun H7 t S7 nt ht => ?_
      walk_at "rx"
      refine rd_newQ (by simp) fun H8 u S8 nu hu => ?_
      exact q _ _ ((w6.same S7).same S8) (rs_lst hu okR (S8 _ _ ht) ((its_rows (NRows.same tb6 S7)).same S8) lm)
    rw [decide_eq_false (show ¬ V.int (way : Int) = V.int 6 from fun w => c6 (by have := V.int.inj w; omega))]
    walk_at "rx"
    by_cases c7 : way = 7
    · rw [decide_eq_true (show V.int (way : Int) = V.int 7 by rw [c7]; rfl)]
      walk_at "rx"
      refine lc_acc2 (walk_list (xs := rs.map V.ref)) (fun i acc H' => ∃ (as : List Addr) (qs : List (List Nat)), acc = as.map V.ref ∧ NRows H' as qs ∧ qs.length = i ∧ i ≤ 1) ⟨[], [], rfl, TupsAt.nil, rfl, Nat.zero_le _⟩ (fun i acc H H' k pp => by obtain ⟨as, qs, e, t, l, k1⟩ := pp; exact ⟨as, qs, e, TupsAt.kt k t, l, k1⟩) (fun i acc H' hi pp => by obtain ⟨as, qs, rfl, t, l, k1⟩ := pp; rw [List.length_map, NRows.len t]; omega) (fun H' S => SqL.of (S _ _ hsm)) ?_ ?_
      · rintro i x Hx Hy acc Qc R2 hi Sx ⟨as, qs, rfl, ta, la, k1⟩ ⟨rfl, ex⟩ qc rc
        rw [List.length_map] at hi
        have eb : rs[i]? = some rs[i] := List.getElem?_eq_getElem hi
        rw [List.getElem?_map, eb] at ex
        cases ex
        obtain ⟨p, e1, e2⟩ := NRows.get (NRows.same tr Sx) eb
        obtain ⟨pl, pl2⟩ := p2 p (List.mem_of_getElem? e1)
        have tp : TG Hy rs[i] (niz p) := .of e2
        have lp : (niz p).length = p.length := niz_len p
        walk_at "rx"
        refine ⟨rfl, ?_⟩
        walk_at "rx"
        refine rd_slO tp (fun k => by have := k.1; rw [show (1 : Int) = ((1 : Nat) : Int) from rfl, HT.sIx_nat] at this; omega) ?_
        refine rd_newL fun Ha u1 Sa na h1 => ?_
        rw [show (1 : Int) = ((1 : Nat) : Int) from rfl, cutI_from (niz p) (by omega)] at h1
        walk_at "rx"
        refine rd_slO (tp.same Sa) (fun k => by have := k.2; rw [show (1 : Int) = ((1 : Nat) : Int) from rfl, HT.sIx_nat, Nat.min_eq_left (by omega)] at this; omega) ?_
        refine rd_newL fun Hb u2 Sb nb h2 => ?_
        rw [show (1 : Int) = ((1 : Nat) : Int) from rfl, cutI_to (niz p) (by omega)] at h2
        refine rd_cat3 (Sb _ _ h1) h2 (by rw [List.length_map, List.length_map, List.length_drop, List.length_take]; omega) fun Hc u3 Sc h3 => ?_
        have S3 := (Sa.trans Sb).trans Sc
        have h3 : Hc u3 = some (.tup (nvs (p.drop 1 ++ p.take 1))) := by
          rw [h3]
          simp [nvs, niz, List.map_drop, List.map_take]
        refine qc _ _ S3 ⟨as ++ [u3], qs ++ [p.drop 1 ++ p.take 1], by rw [List.map_append]; rfl, NRows.cat (NRows.same ta S3) (NRows.mk rfl fun j c p4 a1 a2 => ?_), by rw [List.length_append, la]; rfl, by omega⟩
        cases j with
        | zero => cases a1; cases a2; exact h3
        | succ j => simp at a1
      intro H7 D acc S7 nD hD pp
      obtain ⟨as, qs, rfl, ta, la, k1⟩ := pp
      walk_at "rx"
      refine rd_newL fun H8 t S8 nt ht => ?_
      walk_at "rx"
      refine rd_newQ (by simp) fun H9 u S9 nu hu => ?_
      exact q _ _ (((w6.same S7).same S8).same S9) (rs_tup hu okR (S9 _ _ ht) (its_rows (NRows.same ta (S8.trans S9))) (by rw [List.length_map]; omega))
    rw [decide_eq_false (show ¬ V.int (way : Int) = V.int 7 from fun w => c7 (by have := V.int.inj w; omega))]
    walk_at "rx"
    by_cases c8 : way = 8
    · rw [decide_eq_true (show V.int (way : Int) = V.int 8 by rw [c8]; rfl)]
      walk_at "rx"
      refine rd_newQ (by simp) fun H7 t0 S7 nt0 ht0 => ?_
      walk_at "rx"
      refine rd_newQ (by simp) fun H8 t S8 nt ht => ?_
      walk_at "rx"
      refine rd_newQ (by simp) fun H9 u S9 nu hu => ?_
      exact q _ _ (((w6.same S7).same S8).same S9) (rs_tup (its := [.row [one, two]]) hu okR (S9 _ _ ht) (ItsAt.snoc (xs := []) (its := []) ⟨rfl, fun i x t k => by simp at k⟩ ⟨t0, rfl, S9 _ _ (S8 _ _ ht0)⟩) (by simp))
    rw [decide_eq_false (show ¬ V.int (way : Int) = V.int 8 from fun w => c8 (by have := V.int.inj w; omega))]
    walk_at "rx"
    by_cases c9 : way = 9
    · rw [decide_eq_true (show V.int (way : Int) = V.int 9 by rw [c9]; rfl)]
      walk_at "rx"
      refine rd_newQ (by simp) fun H7 t0 S7 nt0 ht0 => ?_
      walk_at "rx"
      refine rd_newQ (by simp) fun H8 m0 S8 nm0 hm0 => ?_
      have S78 := S7.trans S8
      refine rd_catLN (S78 _ _ hl6) hm0 (by rw [List.length_map]; simp; omega) ?_
      refine rd_newL fun H9 m S9 nm hm => ?_
      have S79 := S78.trans S9
      have t9 : NRows H9 (bs ++ [t0]) (rngs es fs ++ [[one, two]]) := NRows.cat (NRows.same tb6 S79) (NRows.mk rfl fun j c p4 a1 a2 => by
          cases j with
          | zero => cases a1; cases a2; exact S9 _ _ (S8 _ _ ht0)
          | succ j => simp at a1)
      walk_at "rx"
      refine rd_newL fun Ha t Sa nt ht => ?_
      walk_at "rx"
      refine rd_newQ (by simp) fun Hb u Sb nu hu => ?_
      exact q _ _ (((w6.same S79).same Sa).same Sb) (rs_tup hu okR (xs := (bs ++ [t0]).map V.ref) (by rw [List.map_append]; exact Sb _ _ ht) (its_rows (NRows.same t9 (Sa.trans Sb))) (by rw [List.length_map, List.length_append]; simp; omega))
    rw [decide_eq_false (show ¬ V.int (way : Int) = V.int 9 from fun w => c9 (by have := V.int.inj w; omega))]
    walk_at "rx"
    by_cases c10 : way = 10
    · rw [decide_eq_true (show V.int (way : Int) = V.int 10 by rw [c10]; rfl)]
      walk_at "rx"
      refine rd_newQ (by simp) fun H7 t S7 nt ht => ?_
      exact q _ _ (w6.same S7) (rs_word ht okR)
    rw [decide_eq_false (show ¬ V.int (way : Int) = V.int 10 from fun w => c10 (by have := V.int.inj w; omega))]
    walk_at "rx"
    by_cases c11 : way = 11
    · rw [decide_eq_true (show V.int (way : Int) = V.int 11 by rw [c11]; rfl)]
      walk_at "rx"
      refine rd_newL fun H7 t S7 nt ht => ?_
      walk_at "rx"
      refine rd_newQ (by simp) fun H8 u S8 nu hu => ?_
      exact q _ _ ((w6.same S7).same S8) (rs_tup hu okF (S8 _ _ ht) (((its_rows (NRows.same tb6 S7))).same S8) (lm))
    rw [decide_eq_false (show ¬ V.int (way : Int) = V.int 11 from fun w => c11 (by have := V.int.inj w; omega))]
    walk_at "rx"
    by_cases c12 : way = 12
    · rw [decide_eq_true (show V.int (way : Int) = V.int 12 by rw [c12]; rfl)]
      walk_at "rx"
      refine rd_newL fun H7 t S7 nt ht => ?_
      walk_at "rx"
      refine rd_newQ (by simp) fun H8 u S8 nu hu => ?_
      exact q _ _ ((w6.same S7).same S8) (rs_tup hu okR (S8 _ _ ht) (((its_rows (NRows.same tr S7))).same S8) (by rw [List.length_map]; omega))
    rw [decide_eq_false (show ¬ V.int (way : Int) = V.int 12 from fun w => c12 (by have := V.int.inj w; omega))]
    walk_at "rx"
    by_cases c14 : way = 14
    · rw [decide_eq_true (show V.int (way : Int) = V.int 14 by rw [c14]; rfl)]
      walk_at "rx"
      exact q _ _ w6 ⟨.non, rfl, fun s w e => by cases e⟩
    rw [decide_eq_false (show ¬ V.int (way : Int) = V.int 14 from fun w => c14 (by have := V.int.inj w; omega))]
    walk_at "rx"
    by_cases c15 : way = 15
    · rw [decide_eq_true (show V.int (way : Int) = V.int 15 by rw [c15]; rfl)]
      walk_at "rx"
      refine rd_newQ (by simp) fun H7 t S7 nt ht => ?_
      exact q _ _ (w6.same S7) ⟨.nil, ⟨t, rfl, ht⟩, fun s w e => by cases e⟩
    rw [decide_eq_false (show ¬ V.int (way : Int) = V.int 15 from fun w => c15 (by have := V.int.inj w; omega))]
    walk_at "rx"
    by_cases c16 : way = 16
    · rw [decide_eq_true (show V.int (way : Int) = V.int 16 by rw [c16]; rfl)]
      walk_at "rx"
      refine rd_newQ (by simp) fun H7 t S7 nt ht => ?_
      exact q _ _ (w6.same S7) ⟨.num one, ⟨t, rfl, ht⟩, fun s w e => by cases e⟩
    rw [decide_eq_false (show ¬ V.int (way : Int) = V.int 16 from fun w => c16 (by have := V.int.inj w; omega))]
    walk_at "rx"
    by_cases c17 : way = 17
    · rw [decide_eq_true (show V.int (way : Int) = V.int 17 by rw [c17]; rfl)]
      walk_at "rx"
      refine rd_newQ (by simp) fun H7 t S7 nt ht => ?_
      exact q _ _ (w6.same S7) ⟨.pair (Str.ofString "rings") .non, ⟨t, .non, rfl, ht, okR, rfl⟩, fun s w e => by cases e; exact Nat.zero_le _⟩
    rw [decide_eq_false (show ¬ V.int (way : Int) = V.int 17 from fun w => c17 (by have := V.int.inj w; omega))]
    walk_at "rx"
    by_cases c18 : way = 18
    · rw [decide_eq_true (show V.int (way : Int) = V.int 18 by rw [c18]; rfl)]
      walk_at "rx"
      refine rd_newQ (by simp) fun H7 t S7 nt ht => ?_
      walk_at "rx"
      refine rd_newQ (by simp) fun H8 u S8 nu hu => ?_
      exact q _ _ ((w6.same S7).same S8) (rs_tup hu okR (S8 _ _ ht) (((show ItsAt H7 [.int (one : Int), .int (two : Int)] [.num one, .num two] from ItsAt.snoc (ItsAt.snoc (xs := []) (its := []) ⟨rfl, fun i x t k => by simp at k⟩ (show ItAt H7 (.int (one : Int)) (.num one) from rfl)) (show ItAt H7 (.int (two : Int)) (.num two) from rfl))).same S8) (by simp))
    rw [decide_eq_false (show ¬ V.int (way : Int) = V.int 18 from fun w => c18 (by have := V.int.inj w; omega))]
    walk_at "rx"
    by_cases c19 : way = 19
    · rw [decide_eq_true (show V.int (way : Int) = V.int 19 by rw [c19]; rfl)]
      walk_at "rx"
      refine lc_acc3 (walk_list (xs := bs.map V.ref)) (fun D i acc H' => acc.length = i ∧ i ≤ 12 ∧ ∃ qs : List (List Nat), qs.length = i ∧ ∀ (j : Nat) x p, acc[j]? = some x → qs[j]? = some p → ∃ c, x = .ref c ∧ c ≠ D ∧ H' c = some (.lst (nvs p))) (fun D H' => ⟨rfl, Nat.zero_le _, [], rfl, fun j x p k => by simp at k⟩) (fun D i acc H1 H2 k pp => by
          obtain ⟨l1, l2, qs, l3, pp⟩ := pp
          refine ⟨l1, l2, qs, l3, fun j x p a1 a2 => ?_⟩
          obtain ⟨c, e1, e2, e3⟩ := pp j x p a1 a2
          exact ⟨c, e1, e2, (k c e2).trans e3⟩) (fun D i acc H' hi pp => by have := pp.1; have := pp.2.1; omega) (fun H' S => SqL.of (S _ _ hl6)) ?_ ?_
      · rintro D i x Hx Hy acc Qc R2 hi Sx hDx ⟨l1, l2, qs, l3, pp⟩ ⟨rfl, ex⟩ qc rc
        rw [List.length_map] at hi
        have eb : bs[i]? = some bs[i] := List.getElem?_eq_getElem hi
        rw [List.getElem?_map, eb] at ex
        cases ex
        obtain ⟨p, e1, e2⟩ := NRows.get (NRows.same tb6 Sx) eb
        walk_at "rx"
        refine ⟨rfl, ?_⟩
        walk_at "rx"
        refine rd_newL fun Ha u Sa nu hu => ?_
        refine qc _ _ Sa ⟨by rw [List.length_append, l1]; rfl, by omega, qs ++ [p], by rw [List.length_append, l3]; rfl, fun j x p4 a1 a2 => ?_⟩
        by_cases lj : j < acc.length
        · rw [List.getElem?_append_left lj] at a1
          rw [List.getElem?_append_left (by omega)] at a2
          obtain ⟨c, c1, c2, c3⟩ := pp j x p4 a1 a2
          exact ⟨c, c1, c2, Sa _ _ c3⟩
        · have li := (List.getElem?_eq_some_iff.mp a1).1
          rw [List.length_append, List.length_singleton] at li
          have ej : j = acc.length := by omega
          subst ej
          rw [List.getElem?_append_right (Nat.le_refl _), Nat.sub_self] at a1
          rw [l1, ← l3, List.getElem?_append_right (Nat.le_refl _), Nat.sub_self] at a2
          cases a1
          cases a2
          exact ⟨u, rfl, (fun k => by rw [k, hDx] at nu; cases nu), hu⟩
      intro H7 D acc S7 nD hD pp
      obtain ⟨l1, l2, qs, l3, pp⟩ := pp
      have it7 : ItsAt H7 acc (qs.map It.lrow) := ⟨by rw [List.length_map]; omega, fun j x t a1 a2 => by
        rw [List.getElem?_map] at a2
        cases e : qs[j]? with
        | none => rw [e] at a2; cases a2
        | some p =>
          rw [e] at a2
          cases a2
          obtain ⟨c, c1, _, c3⟩ := pp j x p a1 e
          exact ⟨c, c1, c3⟩⟩
      walk_at "rx"
      refine rd_newL fun H8 t S8 nt ht => ?_
      walk_at "rx"
      refine rd_newQ (by simp) fun H9 u S9 nu hu => ?_
      exact q _ _ (((w6.same S7).same S8).same S9) (rs_tup hu okR (S9 _ _ ht) (it7.same (S8.trans S9)) (by rw [List.length_map]; omega))
    rw [decide_eq_false (show ¬ V.int (way : Int) = V.int 19 from fun w => c19 (by have := V.int.inj w; omega))]
    walk_at "rx"
    refine rd_newL fun H7 t S7 nt ht => ?_
    walk_at "rx"
    refine rd_newQ (by simp) fun H8 u S8 nu hu => ?_
    exact q _ _ ((w6.same S7).same S8) (rs_tup hu okR (S8 _ _ ht) (((its_rows (NRows.same tb6 S7))).same S8) (lm))
def sp_are_rings (K : PySem.W.Frag) : Sp := fun vs H Q _ => ∃ (a b : Addr) (v : V) (es fs : List Int) (w : Wt), vs = [.ref a, .ref b, v] ∧ RP H a b es fs ∧ WtAt H v w ∧ (itsOf w).length ≤ 40 ∧ ∀ H', Same H H' → Q (.bl (tellsW (rngs es fs) w)) H'
set_option maxHeartbeats 4000000 in
theorem ok_are_rings (T : Top K mg) {f : Addr} {fd : FuncData} (D : Def K mg "_are_rings" s_are_rings ["before", "after", "told"] f fd) : FnOk P w K mg base (L2.CX P w) 7 f fd ["before", "after", "told"] (sp_are_rings K) := by
  obtain ⟨frings, fdrings, Drings⟩ := T.d_rings
  have Grings : FnOk P w K mg base (L2.CX P w) 6 frings fdrings ["before", "after"] (springs K) := okrings T Drings
  refine D.F.okX sc_are_rings (fun vs H Q E h => ?_) (fun cdv A outer s H vs Q E hr h => ?_)
  · obtain ⟨a, b, v, es, fs, w, rfl, _⟩ := h
    rfl
  · obtain ⟨a, b, v, es, fs, w, rfl, r, hv, few, q⟩ := h
    have e12 := r.ia.2.1
    refine ⟨_, (pss_cons (ps_if (PW.pt (pw_or (pt_not (pt_val (pe_callB (r := rIsi K) call_isi (by rfl) T.b_isinstance (by decide +kernel) (pa_cons (pv 2) (pa_cons (pe_bltn (v := .ty "tuple") (by rfl) T.b_tuple (by decide +kernel) rfl) pa_nil))))) (pw_or1 (pt_cmpR op_eq (pe_callB (r := rLenQ K) call_lenQ (by rfl) T.b_len PySem.boot_len (pa_cons (pv 2) pa_nil)) pe_int (nomark _))))) (pss_one (ps_ret pe_bl)) pss_nil)
    (pss_cons (ps_set (i := 3) sc_are_rings.nd rfl (.inr rfl) (pe_callS Grings hr (by rfl) Drings.g Drings.F.kp Drings.b (fun σ => passAt (takes_of rfl rfl rfl rfl) σ) (pa_cons (pv 0) (pa_cons (pv 1) pa_nil))))
    (pss_one (ps_ret (pe_callB (r := rAll K) (cr_all rfl) (by rfl) T.b_all (by decide +kernel) (pa_cons (pe_lc (own := [("ring", 4)]) (g := gName 4) (tt := tYes) rfl sc_are_rings.nd (pi_tup (pv 2))
      (blkOk_by (own := [("ring", 4)]) (N := ["before", "after", "told", "turned", "ring"]) (sc := defScope s_are_rings) (by decide +kernel)) (fun _ _ _ _ _ => (pg_name (i := 4) sc_are_rings.nd rfl (.inl rfl))) (fun _ _ _ _ _ => pts_nil)
      (fun _ _ _ _ _ => (pe_cmpR (r := rInD K) (op_inD (units65w hr)) (pv 4) (pv 3) (by rfl)))) pa_nil)))))), ?_⟩
    cases w with
    | non =>
      obtain rfl : v = .non := hv
      walk_at "rx"
      exact q _ (Same.refl _)
    | lst its =>
      obtain ⟨u, xs, rfl, hu, ti⟩ := hv
      walk_at "rx"
      refine rd_isiL hu (b := false) rfl ?_
      walk_at "rx"
      exact q _ (Same.refl _)
    | tup its =>
      obtain ⟨u, xs, rfl, hu, ti⟩ := hv
      have lx := ti.1
      have few : its.length ≤ 40 := few
      walk_at "rx"
      by_cases e0 : its = []
      · rw [decide_eq_true (show V.int ((xs.length : Nat) : Int) = V.int 0 by rw [lx, e0]; rfl)]
        rw [show tellsW (rngs es fs) (.tup its) = false by rw [e0]; rfl] at q
        walk_at "rx"
        exact q _ (Same.refl _)
      have pos : 0 < its.length := List.length_pos_iff.mpr e0
      rw [decide_eq_false (show ¬ V.int ((xs.length : Nat) : Int) = V.int 0 from fun w => by have := V.int.inj w; omega)]
      walk_at "rx"
      refine ⟨_, _, rfl, .inl ⟨a, b, es, fs, rfl, rfl, r, fun H1 T cs S1 hT tT nT => ?_⟩⟩
      have tT : NRows H1 cs (rngs es fs) := tT
      have hu1 := S1 _ _ hu
      have ti1 := ti.same S1
      walk_at "rx"
      refine lc_map (walk_tup (xs := xs)) ((its.map (isRow (rngs es fs))).map V.bl) ?_ ?_ (fun H' S => SqT.of (S _ _ hu1)) ?_ ?_
      · rw [List.length_map, List.length_map, lx]
      · omega
      · rintro i x H2 H3 Qc R hi S ⟨rfl, ex⟩ qc
        have et : its[i]? = some its[i] := List.getElem?_eq_getElem (by omega)
        have ix := (ti1.same S).2 i x _ ex et
        have hT2 := S _ _ hT
        have tT2 := NRows.same tT S
        walk_at "rx"
        refine ⟨rfl, ?_⟩
        walk_at "rx"
        refine rd_inIt ix hT2 tT2 ?_
        exact qc _ _ (Same.refl _) (by rw [List.getElem?_map, List.getElem?_map, et]; rfl)
      intro H2 D S2 nD hD
      walk_at "rx"
      refine rd_all hD ?_
      rw [show (its.map (isRow (rngs es fs))).all id = tellsW (rngs es fs) (.tup its) by
        rw [List.all_map]
        cases its with
        | nil => exact absurd rfl e0
        | cons i r => rfl]
      walk_at "rx"
      exact q _ (S1.trans S2)
def spjudge_obstacle (K : PySem.W.Frag) : Sp := fun vs H Q E => ∃ (v1 v2 v3 : V), vs = [v1, v2, v3] ∧ PairS K H v1 v2 E fun _ _ es fs => ∃ z, RsAt H v3 z ∧ Few z ∧ ∀ H', Same H H' → Q (.bl (jvR z es fs)) H'
set_option maxHeartbeats 4000000 in
theorem okjudge_obstacle (T : Top K mg) {f : Addr} {fd : FuncData} (D : Def K mg "judge_obstacle" sjudge_obstacle ["before", "after", "reason"] f fd) : FnOk P w K mg base (L2.CX P w) 8 f fd ["before", "after", "reason"] (spjudge_obstacle K) := by
  obtain ⟨fcheck_renaming, fdcheck_renaming, Dcheck_renaming⟩ := T.d_check_renaming
  have Gcheck_renaming : FnOk P w K mg base (L2.CX P w) 4 fcheck_renaming fdcheck_renaming ["before", "after"] (spcheck_renaming K) := okcheck_renaming T Dcheck_renaming
  obtain ⟨f_is_of_one_kind, fd_is_of_one_kind, D_is_of_one_kind⟩ := T.d__is_of_one_kind
  have G_is_of_one_kind : FnOk P w K mg base CX0 5 f_is_of_one_kind fd_is_of_one_kind ["image"] (sp_is_of_one_kind K) := ok_is_of_one_kind T D_is_of_one_kind
  obtain ⟨flook, fdlook, Dlook⟩ := T.d_look
  have Glook : FnOk P w K mg base CX0 4 flook fdlook ["image"] (splook K) := oklook T Dlook
  obtain ⟨f_are_rings, fd_are_rings, D_are_rings⟩ := T.d__are_rings
  have G_are_rings : FnOk P w K mg base (L2.CX P w) 7 f_are_rings fd_are_rings ["before", "after", "told"] (sp_are_rings K) := ok_are_rings T D_are_rings
  refine D.F.okX scjudge_obstacle (fun vs H Q E h => ?_) (fun cdv A outer s H vs Q E hr h => ?_)
  · obtain ⟨v1, v2, v3, rfl, _⟩ := h
    rfl
  · obtain ⟨v1, v2, v3, rfl, hp⟩ := h
    refine ⟨_, (pss_cons (ps_expr (pe_callS Gcheck_renaming (hr.mono (by decide)) (by rfl) Dcheck_renaming.g Dcheck_renaming.F.kp Dcheck_renaming.b (fun σ => passAt (takes_of rfl rfl rfl rfl) σ) (pa_cons (pv 0) (pa_cons (pv 1) pa_nil))))
    (pss_cons (ps_if (PW.pt (pw_or (pt_cmpR (op_eqD hr.units) (pv 0) (pv 1) (nomark _)) (pw_or1 (pt_cmpR op_isNQ (pv 2) pe_non (nomark _))))) (pss_one (ps_ret pe_bl)) pss_nil)
    (pss_cons (ps_if (pt_cmpR (op_eqD hr.units) (pv 2) (pe_tup (pa_cons pe_str pa_nil)) (nomark _)) (pss_one (ps_ret (pe_cmpR (r := rIn K true) op_notIn_seq (Rv.pe_k (by rfl) T.k_EMPTY) (pv 0) (by rfl)))) pss_nil)
    (pss_cons (ps_if (pt_cmpR (op_eqD hr.units) (pv 2) (pe_tup (pa_cons pe_str pa_nil)) (nomark _)) (pss_one (ps_ret (pe_cmpR op_eq (pe_call Glook (hr.mono (by decide)) (by rfl) Dlook.g Dlook.F.kp Dlook.b .nil pass0 (pa_cons (pv 0) pa_nil)) (pe_call Glook (hr.mono (by decide)) (by rfl) Dlook.g Dlook.F.kp Dlook.b .nil pass0 (pa_cons (pv 1) pa_nil)) (nomark _)))) pss_nil)
    (pss_cons (ps_if (PW.pt (pw_or (pt_cmpR op_ne (pe_callB (r := rLenQ K) call_lenQ (by rfl) T.b_len PySem.boot_len (pa_cons (pv 2) pa_nil)) pe_int (nomark _)) (pw_or (pt_cmpR op_ne (pe_ix (r := rIxT K) ix_tup (pv 2) pe_int (fun _ _ => rfl)) pe_str (nomark _)) (pw_or1 (pt_not (pt_val (pe_callS G_are_rings hr (by rfl) D_are_rings.g D_are_rings.F.kp D_are_rings.b (fun σ => passAt (takes_of rfl rfl rfl rfl) σ) (pa_cons (pv 0) (pa_cons (pv 1) (pa_cons (pe_ix (r := rIxT K) ix_tup (pv 2) pe_int (fun _ _ => rfl)) pa_nil)))))))))) (pss_one (ps_ret pe_bl)) pss_nil)
    (pss_one (ps_ret (pe_and (pe_cmpR op_eq (pe_tcnt hr.units (pv 0) (Rv.pe_k (by rfl) T.k_EMPTY)) pe_int (nomark _)) (pe_one (pe_call G_is_of_one_kind (hr.mono (by decide)) (by rfl) D_is_of_one_kind.g D_is_of_one_kind.F.kp D_is_of_one_kind.b .nil pass0 (pa_cons (pv 0) pa_nil))))))))))), ?_⟩
    walk_at "rx"
    rcases hp with ⟨a, b, es, fs, rfl, rfl, r, z, hz, few, q⟩ | ⟨M, k, pb, q⟩ | ⟨es, fs, i1, i2, n, q⟩
    rotate_left
    · exact ⟨v1, v2, rfl, .inr (.inl ⟨M, k, pb, q⟩)⟩
    · exact ⟨v1, v2, rfl, .inr (.inr ⟨es, fs, i1, i2, n, q⟩)⟩
    refine ⟨_, _, rfl, .inl ⟨a, b, es, fs, rfl, rfl, r, ?_⟩⟩
    intro H0 S0
    have r0 := r.same S0
    have hz0 := hz.same S0
    walk_at "rx"
    refine rd_eqI r0.ta r0.tb ?_
    by_cases e0 : es = fs
    · rw [decide_eq_true e0]
      rw [jvR_eq e0] at q
      walk_at "rx"
      exact q _ S0
    rw [decide_eq_false e0]
    walk_at "rx"
    by_cases no : v3 = .non
    · subst no
      have zn : z = .non := by
        cases z with
        | non => rfl
        | nil => obtain ⟨_, k, _⟩ := hz; cases k
        | num k => obtain ⟨_, k, _⟩ := hz; cases k
        | word s => obtain ⟨_, k, _⟩ := hz; cases k
        | pair s w => obtain ⟨_, _, k, _⟩ := hz; cases k
      rw [zn, jvR_non] at q
      walk_at "rx"
      exact q _ S0
    rw [decide_eq_false no]
    walk_at "rx"
    refine rd_newQ (by simp) fun H1 t S1 nt ht => ?_
    have r1 := r0.same S1
    have hz1 := hz0.same S1
    refine rd_eqWord hz1 ht (by decide +kernel) ?_
    by_cases c1 : isW sFull z = true
    · rw [c1]
      rw [jvR_full e0 c1] at q
      walk_at "rx"
      refine rd_ninO r1.ta rfl ?_
      rw [inV_ints]
      have e : (!decide (-1 ∈ es)) = decide (-1 ∉ es) := by
        by_cases z : -1 ∈ es
        · rw [decide_eq_true z, decide_eq_false (fun w => w z)]; rfl
        · rw [decide_eq_false z, decide_eq_true z]; rfl
      rw [e]
      exact q _ (S0.trans S1)
    have c1 : isW sFull z = false := Bool.eq_false_iff.mpr c1
    rw [c1]
    walk_at "rx"
    refine rd_newQ (by simp) fun H2 t2 S2 nt2 ht2 => ?_
    have r2 := r1.same S2
    have hz2 := hz1.same S2
    have S12 := (S0.trans S1).trans S2
    refine rd_eqWord hz2 ht2 (by decide +kernel) ?_
    by_cases c2 : isW sAlike z = true
    · rw [c2]
      rw [jvR_alike e0 c1 c2] at q
      walk_at "rx"
      refine ⟨a, es, rfl, r2.ta, r2.ia, fun H4 S4 => ?_⟩
      have r4 := r2.same S4
      walk_at "rx"
      refine ⟨b, fs, rfl, r4.tb, r4.ib, fun H5 S5 => ?_⟩
      walk_at "rx"
      rw [show decide (V.str (txt (codes es)) = V.str (txt (codes fs))) = decide (codes es = codes fs) from decide_eq_decide.mpr ⟨fun w => txt_inj (V.str.inj w), fun w => by rw [w]⟩]
      exact q _ ((S12.trans S4).trans S5)
    have c2 : isW sAlike z = false := Bool.eq_false_iff.mpr c2
    rw [c2]
    rw [jvR_rest e0 c1 c2] at q
    cases z with
    | non => exact absurd hz no
    | nil =>
      obtain ⟨p, rfl, hp⟩ := hz2
      walk_at "rx"
      exact q _ S12
    | num k =>
      obtain ⟨p, rfl, hp⟩ := hz2
      walk_at "rx"
      exact q _ S12
    | word s =>
      obtain ⟨p, rfl, hp, _⟩ := hz2
      walk_at "rx"
      exact q _ S12
    | pair s w =>
      obtain ⟨p, x, rfl, hp, so, hw⟩ := hz2
      have few := few s w rfl
      walk_at "rx"
      rw [decide_eq_true (show V.int (([V.str s, x].length : Nat) : Int) = V.int 2 from rfl)]
      walk_at "rx"
      have tl : tells (rngs es fs) (.pair s w) = (decide (s = sRings) && tellsW (rngs es fs) w) := rfl
      rw [tl] at q
      by_cases es1 : s = sRings
      · rw [decide_eq_true (show V.str s = V.str (Str.ofString "rings") by rw [es1])]
        rw [decide_eq_true es1, Bool.true_and] at q
        walk_at "rx"
        refine ⟨a, b, x, es, fs, w, rfl, r2, hw, few, fun H3 S3 => ?_⟩
        have r3 := r2.same S3
        cases tw : tellsW (rngs es fs) w with
        | false =>
          rw [tw] at q
          walk_at "rx"
          exact q _ (S12.trans S3)
        | true =>
          rw [tw, Bool.true_and] at q
          walk_at "rx"
          refine rd_tcC rfl r3.ga ?_
          walk_at "rx"
          by_cases n1 : es.count (-1) = 1
          · rw [decide_eq_true (show V.int ((es.count (-1) : Nat) : Int) = V.int 1 by rw [n1]; rfl)]
            rw [decide_eq_true n1, Bool.true_and] at q
            walk_at "rx"
            refine ⟨a, es, rfl, r3.ta, r3.ia, fun H5 S5 => ?_⟩
            walk_at "rx"
            exact q _ ((S12.trans S3).trans S5)
          · rw [decide_eq_false (show ¬ V.int ((es.count (-1) : Nat) : Int) = V.int 1 from fun w => n1 (by have := V.int.inj w; omega))]
            rw [decide_eq_false n1, Bool.false_and] at q
            walk_at "rx"
            exact q _ (S12.trans S3)
      · rw [decide_eq_false (show ¬ V.str s = V.str (Str.ofString "rings") from fun w => es1 (V.str.inj w))]
        rw [decide_eq_false es1, Bool.false_and] at q
        walk_at "rx"
        exact q _ S12
def sp_law_judged (_K : PySem.W.Frag) : Sp := fun vs H Q _ => ∃ (a b : Addr) (v : V) (es fs : List Int) (z : Rs), vs = [.ref a, .ref b, v] ∧ RP H a b es fs ∧ RsAt H v z ∧ Few z ∧ ∀ H', Same H H' → Q (.bl (jvR z es fs)) H'
set_option maxHeartbeats 4000000 in
theorem ok_law_judged (T : Top K mg) {f : Addr} {fd : FuncData} (D : Def K mg "_law_judged" s_law_judged ["before", "after", "reason"] f fd) : FnOk P w K mg base CX0 3 f fd ["before", "after", "reason"] (sp_law_judged K) := by
  obtain ⟨f_law_loops, fd_law_loops, D_law_loops⟩ := T.d__law_loops
  have G_law_loops : FnOk P w K mg base CX0 2 f_law_loops fd_law_loops ["before", "after"] (sp_law_loops K) := ok_law_loops T D_law_loops
  obtain ⟨f_law_one_kind, fd_law_one_kind, D_law_one_kind⟩ := T.d__law_one_kind
  have G_law_one_kind : FnOk P w K mg base CX0 1 f_law_one_kind fd_law_one_kind ["image"] (sp_law_one_kind K) := ok_law_one_kind T D_law_one_kind
  obtain ⟨f_law_view, fd_law_view, D_law_view⟩ := T.d__law_view
  have G_law_view : FnOk P w K mg base CX0 2 f_law_view fd_law_view ["image"] (sp_law_view K) := ok_law_view T D_law_view
  refine D.F.ok sc_law_judged (fun vs H Q E h => ?_) (fun cdv A outer s H vs Q E hr h => ?_)
  · obtain ⟨a, b, v, es, fs, z, rfl, _⟩ := h
    rfl
  · obtain ⟨a, b, v, es, fs, z, rfl, r, hz, few, q⟩ := h
    refine ⟨_, (pss_cons (ps_if (pt_cmpR (op_eqD hr.units) (pv 0) (pv 1) (nomark _)) (pss_one (ps_ret pe_bl)) pss_nil)
    (pss_cons (ps_if (pt_cmpR (op_eqD hr.units) (pv 2) (pe_tup (pa_cons pe_str pa_nil)) (nomark _)) (pss_one (ps_ret (pe_cmpR op_eq (pe_tcnt hr.units (pv 0) (pe_un un_neg pe_int)) pe_int (nomark _)))) pss_nil)
    (pss_cons (ps_if (pt_cmpR (op_eqD hr.units) (pv 2) (pe_tup (pa_cons pe_str pa_nil)) (nomark _)) (pss_one (ps_ret (pe_cmpR op_eq (pe_call G_law_view hr (by rfl) D_law_view.g D_law_view.F.kp D_law_view.b .nil pass0 (pa_cons (pv 0) pa_nil)) (pe_call G_law_view hr (by rfl) D_law_view.g D_law_view.F.kp D_law_view.b .nil pass0 (pa_cons (pv 1) pa_nil)) (nomark _)))) pss_nil)
    (pss_cons (ps_if (PW.pt (pw_or (pt_not (pt_val (pe_callB (r := rIsi K) call_isi (by rfl) T.b_isinstance (by decide +kernel) (pa_cons (pv 2) (pa_cons (pe_bltn (v := .ty "tuple") (by rfl) T.b_tuple (by decide +kernel) rfl) pa_nil))))) (pw_or (pt_cmpR op_ne (pe_callB (r := rLenQ K) call_lenQ (by rfl) T.b_len PySem.boot_len (pa_cons (pv 2) pa_nil)) pe_int (nomark _)) (pw_or1 (pt_cmpR op_ne (pe_ix (r := rIxT K) ix_tup (pv 2) pe_int (fun _ _ => rfl)) pe_str (nomark _)))))) (pss_one (ps_ret pe_bl)) pss_nil)
    (pss_cons (ps_if (PW.pt (pw_or (pt_not (pt_val (pe_callB (r := rIsi K) call_isi (by rfl) T.b_isinstance (by decide +kernel) (pa_cons (pe_ix (r := rIxT K) ix_tup (pv 2) pe_int (fun _ _ => rfl)) (pa_cons (pe_bltn (v := .ty "tuple") (by rfl) T.b_tuple (by decide +kernel) rfl) pa_nil))))) (pw_or1 (pt_cmpR (op_eqD hr.units) (pe_ix (r := rIxT K) ix_tup (pv 2) pe_int (fun _ _ => rfl)) (pe_tup pa_nil) (nomark _))))) (pss_one (ps_ret pe_bl)) pss_nil)
    (pss_cons (ps_set (i := 3) sc_law_judged.nd rfl (.inr rfl) (pe_call G_law_loops hr (by rfl) D_law_loops.g D_law_loops.F.kp D_law_loops.b .nil pass0 (pa_cons (pv 0) (pa_cons (pv 1) pa_nil))))
    (pss_cons (ps_if (pt_cmpR (op_neD hr.units) (pe_lc (own := [("row", 4)]) (g := gName 4) (tt := _) rfl sc_law_judged.nd (pi_tup (pe_ix (r := rIxT K) ix_tup (pv 2) pe_int (fun _ _ => rfl)))
      (blkOk_by (own := [("row", 4)]) (N := ["before", "after", "reason", "loops", "row"]) (sc := defScope s_law_judged) (by decide +kernel)) (fun _ _ _ _ _ => (pg_name (i := 4) sc_law_judged.nd rfl (.inl rfl))) (fun _ _ _ _ _ => pts_one (pt_cmpR (r := rNotInD K) (op_notInD (units65w hr)) (pv 4) (pv 3) (by rfl)))
      (fun _ _ _ _ _ => (pv 4))) (pe_lst pa_nil) (nomark _)) (pss_one (ps_ret pe_bl)) pss_nil)
    (pss_one (ps_ret (pe_and (pe_cmpR op_eq (pe_tcnt hr.units (pv 0) (pe_un un_neg pe_int)) pe_int (nomark _)) (pe_one (pe_call G_law_one_kind (hr.mono (by decide)) (by rfl) D_law_one_kind.g D_law_one_kind.F.kp D_law_one_kind.b .nil pass0 (pa_cons (pv 0) pa_nil))))))))))))), ?_⟩
    walk_at "rx"
    refine rd_eqI r.ta r.tb ?_
    by_cases e0 : es = fs
    · rw [decide_eq_true e0]
      rw [jvR_eq e0] at q
      walk_at "rx"
      exact q _ (Same.refl _)
    rw [decide_eq_false e0]
    walk_at "rx"
    refine rd_newQ (by simp) fun H1 t S1 nt ht => ?_
    have r1 := r.same S1
    have hz1 := hz.same S1
    refine rd_eqWord hz1 ht (by decide +kernel) ?_
    by_cases c1 : isW sFull z = true
    · rw [c1]
      rw [jvR_full e0 c1] at q
      walk_at "rx"
      refine ⟨_, rfl, _, _, rfl, r1.ga, ?_⟩
      walk_at "rx"
      refine ⟨_, rfl, r1.ga, ?_⟩
      walk_at "rx"
      rw [show decide (V.int ((es.count (-1) : Nat) : Int) = V.int 0) = decide ((-1 : Int) ∉ es) from decide_eq_decide.mpr ⟨fun w => List.count_eq_zero.mp (by have := V.int.inj w; omega), fun w => by rw [List.count_eq_zero.mpr w]; rfl⟩]
      exact q _ S1
    have c1 : isW sFull z = false := Bool.eq_false_iff.mpr c1
    rw [c1]
    walk_at "rx"
    refine rd_newQ (by simp) fun H2 t2 S2 nt2 ht2 => ?_
    have r2 := r1.same S2
    have hz2 := hz1.same S2
    have S12 := S1.trans S2
    refine rd_eqWord hz2 ht2 (by decide +kernel) ?_
    by_cases c2 : isW sAlike z = true
    · rw [c2]
      rw [jvR_alike e0 c1 c2] at q
      walk_at "rx"
      refine ⟨a, es, rfl, .inl r2.ta, r2.ia.2.2, r2.ia.2.1, fun H4 S4 => ?_⟩
      have r4 := r2.same S4
      walk_at "rx"
      refine ⟨b, fs, rfl, .inl r4.tb, r4.ib.2.2, r4.ib.2.1, fun H5 S5 => ?_⟩
      walk_at "rx"
      rw [show decide (V.str (txt (codes es)) = V.str (txt (codes fs))) = decide (codes es = codes fs) from decide_eq_decide.mpr ⟨fun w => txt_inj (V.str.inj w), fun w => by rw [w]⟩]
      exact q _ ((S12.trans S4).trans S5)
    have c2 : isW sAlike z = false := Bool.eq_false_iff.mpr c2
    rw [c2]
    rw [jvR_rest e0 c1 c2] at q
    cases z with
    | non =>
      obtain rfl : v = .non := hz2
      walk_at "rx"
      exact q _ S12
    | nil =>
      obtain ⟨p, rfl, hp⟩ := hz2
      walk_at "rx"
      exact q _ S12
    | num k =>
      obtain ⟨p, rfl, hp⟩ := hz2
      walk_at "rx"
      exact q _ S12
    | word s =>
      obtain ⟨p, rfl, hp, _⟩ := hz2
      walk_at "rx"
      exact q _ S12
    | pair s w =>
      obtain ⟨p, x, rfl, hp, so, hw⟩ := hz2
      have few := few s w rfl
      walk_at "rx"
      rw [decide_eq_true (show V.int (([V.str s, x].length : Nat) : Int) = V.int 2 from rfl)]
      walk_at "rx"
      have out : tellsW (rngs es fs) w = false ∨ s ≠ sRings → ∀ H', Same H H' → Q (.bl false) H' := fun k H' S => by
        have : tells (rngs es fs) (.pair s w) = false := by
          show (decide (s = sRings) && tellsW (rngs es fs) w) = false
          rcases k with k | k
          · rw [k, Bool.and_false]
          · rw [decide_eq_false k]; rfl
        rw [this] at q
        exact q H' S
      by_cases es1 : s = sRings
      · rw [decide_eq_true (show V.str s = V.str (Str.ofString "rings") by rw [es1])]
        walk_at "rx"
        cases w with
        | non =>
          obtain rfl : x = .non := hw
          walk_at "rx"
          exact out (.inl rfl) _ S12
        | lst its =>
          obtain ⟨u, xs, rfl, hu, ti⟩ := hw
          walk_at "rx"
          refine rd_isiL hu (b := false) rfl ?_
          walk_at "rx"
          exact out (.inl rfl) _ S12
        | tup its =>
          obtain ⟨u, xs, rfl, hu, ti⟩ := hw
          have lx := ti.1
          have few : its.length ≤ 40 := few
          walk_at "rx"
          refine rd_newQ (by simp) fun H3 t3 S3 nt3 ht3 => ?_
          have hu3 := S3 _ _ hu
          have ti3 := ti.same S3
          have r3 := r2.same S3
          refine rd_eqIts0 hu3 ti3 ht3 ?_
          by_cases e4 : its = []
          · rw [decide_eq_true e4]
            walk_at "rx"
            exact out (.inl (by rw [e4]; rfl)) _ (S12.trans S3)
          rw [decide_eq_false e4]
          walk_at "rx"
          refine ⟨a, b, es, fs, rfl, r3, fun H4 l bs S4 hl tb => ?_⟩
          have r4 := r3.same S4
          have S14 := (S12.trans S3).trans S4
          have hu4 := S4 _ _ hu3
          have ti4 := ti3.same S4
          have hp4 := S4 _ _ (S3 _ _ hp)
          walk_at "rx"
          refine lc_acc (walk_tup (xs := xs)) (fun i acc => ItsAt H4 acc (oddIts (rngs es fs) its i)) ⟨rfl, fun i x t k => by simp at k⟩ (fun i acc hi e => by have := oddIts_len (rngs es fs) its i; rw [e.1]; omega) (fun H' S => SqT.of (S _ _ hu4)) ?_ ?_
          · rintro i x Hx Hy acc Qc R2 hi Sx e ⟨rfl, ex⟩ qc rc
            have et : its[i]? = some its[i] := List.getElem?_eq_getElem (by omega)
            have ix := ti4.2 i x _ ex et
            have nx := oddIts_next (ps := rngs es fs) et
            have hlx := Sx _ _ hl
            have tbx := NRows.same tb Sx
            walk_at "rx"
            refine ⟨rfl, ?_⟩
            walk_at "rx"
            refine rd_ninIt (ix.same Sx) hlx tbx ?_
            cases z : (!isRow (rngs es fs) its[i]) with
            | true =>
              walk_at "rx"
              refine qc _ _ (Same.refl _) ?_
              rw [nx, if_pos z]
              exact ItsAt.snoc e ix
            | false =>
              walk_at "rx"
              refine rc _ (Same.refl _) ?_
              rw [nx, if_neg (by rw [z]; decide), List.append_nil]
              exact e
          intro H5 D acc S5 nD hD e5
          walk_at "rx"
          refine rd_newQ (by simp) fun H6 t6 S6 nt6 ht6 => ?_
          have r6 := (r4.same S5).same S6
          have S16 := (S14.trans S5).trans S6
          refine rd_neIts0 (S6 _ _ hD) ((e5.same S5).same S6) ht6 ?_
          rw [lx, oddIts_all e4]
          cases tw : tellsW (rngs es fs) (.tup its) with
          | false =>
            walk_at "rx"
            exact out (.inl tw) _ S16
          | true =>
            rw [show tells (rngs es fs) (.pair s (.tup its)) = true from by show (decide (s = sRings) && tellsW (rngs es fs) (.tup its)) = true; rw [tw, decide_eq_true es1]; rfl, Bool.true_and] at q
            walk_at "rx"
            refine ⟨_, rfl, _, _, rfl, r6.ga, ?_⟩
            walk_at "rx"
            refine ⟨_, rfl, r6.ga, ?_⟩
            walk_at "rx"
            by_cases n1 : es.count (-1) = 1
            · rw [decide_eq_true (show V.int ((es.count (-1) : Nat) : Int) = V.int 1 by rw [n1]; rfl)]
              rw [decide_eq_true n1, Bool.true_and] at q
              walk_at "rx"
              refine ⟨a, es, rfl, r6.ta, r6.ia, fun H7 S7 => ?_⟩
              exact q _ (S16.trans S7)
            · rw [decide_eq_false (show ¬ V.int ((es.count (-1) : Nat) : Int) = V.int 1 from fun w => n1 (by have := V.int.inj w; omega))]
              rw [decide_eq_false n1, Bool.false_and] at q
              walk_at "rx"
              exact q _ S16
      · rw [decide_eq_false (show ¬ V.str s = V.str (Str.ofString "rings") from fun w => es1 (V.str.inj w))]
        walk_at "rx"
        exact out (.inr es1) _ S12
def sp_law_judge_holds (_K : PySem.W.Frag) : Sp := fun vs H Q _ => ∃ (B : Box) (a b : Addr) (es fs : List Int) (safe : Bool), vs = [.ref B.b, .ref a, .ref b, .bl safe] ∧ IsBk B ∧ B.I H ∧ RP H a b es fs ∧ (safe = true → Saf es fs) ∧ ∀ H', Wg B H H' → Q (.bl true) H'
set_option maxHeartbeats 4000000 in
theorem ok_law_judge_holds (T : Top K mg) {f : Addr} {fd : FuncData} (D : Def K mg "_law_judge_holds" s_law_judge_holds ["box", "before", "after", "safe"] f fd) : FnOk P w K mg base CX0 9 f fd ["box", "before", "after", "safe"] (sp_law_judge_holds K) := by
  obtain ⟨f_law_any_reason, fd_law_any_reason, D_law_any_reason⟩ := T.d__law_any_reason
  have G_law_any_reason : FnOk P w K mg base CX0 3 f_law_any_reason fd_law_any_reason ["box", "before", "after"] (sp_law_any_reason K) := ok_law_any_reason T D_law_any_reason
  obtain ⟨fjudge_obstacle, fdjudge_obstacle, Djudge_obstacle⟩ := T.d_judge_obstacle
  have Gjudge_obstacle : FnOk P w K mg base (L2.CX P w) 8 fjudge_obstacle fdjudge_obstacle ["before", "after", "reason"] (spjudge_obstacle K) := okjudge_obstacle T Djudge_obstacle
  obtain ⟨f_law_judged, fd_law_judged, D_law_judged⟩ := T.d__law_judged
  have G_law_judged : FnOk P w K mg base CX0 3 f_law_judged fd_law_judged ["before", "after", "reason"] (sp_law_judged K) := ok_law_judged T D_law_judged
  refine D.F.ok sc_law_judge_holds (fun vs H Q E h => ?_) (fun cdv A outer s H vs Q E hr h => ?_)
  · obtain ⟨B, a, b, es, fs, safe, rfl, _⟩ := h
    rfl
  · obtain ⟨B, a, b, es, fs, safe, rfl, hB, i0, r, sf, q⟩ := h
    have h3 : -100000 ≤ (3 : Int) ∧ (3 : Int) ≤ 100000 := by decide
    refine ⟨_, (pss_cons (ps_for PassesOwn.never rfl (pi_range1 (by rfl) T.b_range (pa_cons pe_int pa_nil)) (pg_name (i := 4) sc_law_judge_holds.nd rfl (.inl rfl)) (pss_cons (ps_set (i := 5) sc_law_judge_holds.nd rfl (.inl rfl) (pe_call G_law_any_reason (hr.mono (by decide)) (by rfl) D_law_any_reason.g D_law_any_reason.F.kp D_law_any_reason.b .nil pass0 (pa_cons (pv 0) (pa_cons (pv 1) (pa_cons (pv 2) pa_nil)))))
    (pss_cons (ps_set (i := 6) sc_law_judge_holds.nd rfl (.inl rfl) (pe_call Gjudge_obstacle hr (by rfl) Djudge_obstacle.g Djudge_obstacle.F.kp Djudge_obstacle.b .nil passL (pa_cons (pv 1) (pa_cons (pv 2) (pa_cons (pv 5) pa_nil)))))
    (pss_cons (ps_if (pt_not (pt_val (pe_callB (r := rIsi K) call_isi (by rfl) T.b_isinstance (by decide +kernel) (pa_cons (pv 6) (pa_cons (pe_bltn (v := .ty "bool") (by rfl) T.b_bool (by decide +kernel) rfl) pa_nil))))) (pss_one (ps_ret pe_bl)) pss_nil)
    (pss_one (ps_if (pt_cmpR op_ne (pv 6) (pe_and (pe_not (pv 3)) (pe_one (pe_call G_law_judged (hr.mono (by decide)) (by rfl) D_law_judged.g D_law_judged.F.kp D_law_judged.b .nil pass0 (pa_cons (pv 1) (pa_cons (pv 2) (pa_cons (pv 5) pa_nil)))))) (nomark _)) (pss_one (ps_ret pe_bl)) pss_nil))))))
    (pss_one (ps_ret pe_bl))), ?_⟩
    walk_at "rx"
    refine fr_rng0 (fun i σ H' => ∃ (y4 y5 y6 : Option V), σ = [some (.ref B.b), some (.ref a), some (.ref b), some (.bl safe), y4, y5, y6] ∧ Wg B H H') ⟨_, _, _, rfl, Wg.refl i0⟩ ?_ ?_
    · rintro i σ Ha hi ⟨y4, y5, y6, rfl, wa⟩
      have ra : RP Ha a b es fs := ⟨r.ga.wg wa, r.gb.wg wa, r.ia, r.ib, r.rn⟩
      walk_at "rx"
      refine ⟨B, a, b, es, fs, rfl, hB, wa.i1, ra, fun Hb v z wb hz few => ?_⟩
      have rb : RP Hb a b es fs := ⟨ra.ga.wg wb, ra.gb.wg wb, r.ia, r.ib, r.rn⟩
      walk_at "rx"
      refine ⟨.ref a, .ref b, v, rfl, .inl ⟨a, b, es, fs, rfl, rfl, rb, z, hz, few, fun Hc Sc => ?_⟩⟩
      have rc := rb.same Sc
      have hzc := hz.same Sc
      have wc := (wa.trans wb).same Sc
      walk_at "rx"
      cases safe with
      | true =>
        rw [(sf rfl).jv z]
        walk_at "rx"
        rw [show (!decide (V.bl false = V.bl false)) = false from rfl]
        walk_at "rx"
        exact ⟨_, _, _, rfl, wc⟩
      | false =>
        walk_at "rx"
        refine ⟨a, b, v, es, fs, z, rfl, rc, hzc, few, fun Hd Sd => ?_⟩
        walk_at "rx"
        rw [show (!decide (V.bl (jvR z es fs) = V.bl (jvR z es fs))) = false by rw [decide_eq_true rfl]; rfl]
        walk_at "rx"
        exact ⟨_, _, _, rfl, wc.same Sd⟩
    · rintro σ Ha ⟨y4, y5, y6, rfl, wa⟩
      walk_at "rx"
      exact q _ wa
def sp_check_free (K : PySem.W.Frag) : Sp := fun vs H Q E => ∃ (v1 v2 : V), vs = [v1, v2] ∧ PairS K H v1 v2 E fun _ _ es fs => CfQ K H (∀ H', Same H H' → Q .non H') E es fs
set_option maxHeartbeats 4000000 in
theorem ok_check_free (T : Top K mg) {f : Addr} {fd : FuncData} (D : Def K mg "_check_free" s_check_free ["before", "after"] f fd) : FnOk P w K mg base (L2.CX P w) 9 f fd ["before", "after"] (sp_check_free K) := by
  obtain ⟨fE_NoPlan, fdE_NoPlan, ET_NoPlan, FE_NoPlan, bE_NoPlan⟩ := T.e_NoPlan
  have GI_NoPlan := okInit_NoPlan (P := P) (w := w) (base := base) ET_NoPlan FE_NoPlan
  obtain ⟨fobstacle, fdobstacle, Dobstacle⟩ := T.d_obstacle
  have Gobstacle : FnOk P w K mg base (L2.CX P w) 8 fobstacle fdobstacle ["before", "after"] (spobstacle K) := okobstacle T Dobstacle
  refine D.F.okX sc_check_free (fun vs H Q E h => ?_) (fun cdv A outer s H vs Q E hr h => ?_)
  · obtain ⟨v1, v2, rfl, _⟩ := h
    rfl
  · obtain ⟨v1, v2, rfl, hc⟩ := h
    refine ⟨_, (pss_cons (ps_set (i := 2) sc_check_free.nd rfl (.inl rfl) (pe_callS Gobstacle hr (by rfl) Dobstacle.g Dobstacle.F.kp Dobstacle.b (fun σ => passAt (takes_of rfl rfl rfl rfl) σ) (pa_cons (pv 0) (pa_cons (pv 1) pa_nil))))
    (pss_one (ps_if (pt_cmpR op_notNQ (pv 2) pe_non (nomark _)) (pss_one (ps_raiseQ rfl (takes_of rfl rfl rfl rfl) (pmk_oex ET_NoPlan.ox ET_NoPlan.iC ET_NoPlan.tI GI_NoPlan (hr.mono (by decide)) bE_NoPlan .nil pass0 (by rfl) ET_NoPlan.gC (pa_cons (pv 2) pa_nil)))) pss_nil))), ?_⟩
    walk_at "rx"
    refine ⟨v1, v2, rfl, ?_⟩
    rcases hc with ⟨a, b, es, fs, rfl, rfl, r, q⟩ | hc
    · refine .inl ⟨a, b, es, fs, rfl, rfl, r, fun h0 H1 S1 => ?_, fun k hk n0 n4 H1 p S1 hr => ?_, q.q4⟩
      · walk_at "rx"
        refine rd_notNQ ?_
        rw [decide_eq_true (show V.non = V.non from rfl)]
        walk_at "rx"
        exact q.q0 h0 _ S1
      · walk_at "rx"
        refine rd_notNQ ?_
        rw [decide_eq_false (show ¬ V.ref p = V.non from fun w => by cases w)]
        walk_at "rx"
        exact mkErr fun H8 d S8 hd => q.q1 k hk n0 n4 H8 d p (S1.trans S8) hd (hr.same S8)
    · exact .inr hc
def spmoving (K : PySem.W.Frag) : Sp := fun vs H Q E => ∃ (v1 v2 : V), vs = [v1, v2] ∧ PairS K H v1 v2 E fun _ _ es fs => ∀ H' p (ms : List Int), Same H H' → H' p = some (.tup (ms.map V.int)) → ms.Perm (mvA es fs es.length) → ms.Pairwise (· ≤ ·) → Q (.ref p) H'
set_option maxHeartbeats 4000000 in
theorem okmoving (T : Top K mg) {f : Addr} {fd : FuncData} (D : Def K mg "moving" smoving ["before", "after"] f fd) : FnOk P w K mg base (L2.CX P w) 5 f fd ["before", "after"] (spmoving K) := by
  obtain ⟨fcheck_renaming, fdcheck_renaming, Dcheck_renaming⟩ := T.d_check_renaming
  have Gcheck_renaming : FnOk P w K mg base (L2.CX P w) 4 fcheck_renaming fdcheck_renaming ["before", "after"] (spcheck_renaming K) := okcheck_renaming T Dcheck_renaming
  refine D.F.okX scmoving (fun vs H Q E h => ?_) (fun cdv A outer s H vs Q E hr h => ?_)
  · obtain ⟨v1, v2, rfl, _⟩ := h
    rfl
  · obtain ⟨v1, v2, rfl, hc⟩ := h
    refine ⟨_, (pss_cons (ps_expr (pe_callS Gcheck_renaming hr (by rfl) Dcheck_renaming.g Dcheck_renaming.F.kp Dcheck_renaming.b (fun σ => passAt (takes_of rfl rfl rfl rfl) σ) (pa_cons (pv 0) (pa_cons (pv 1) pa_nil))))
    (pss_one (ps_ret (pe_callTy (r := rTupQ K) call_tupQ (by rfl) T.b_tuple (by decide +kernel) (pa_cons (pe_callB (r := rSorted K) cr_sorted (by rfl) T.b_sorted (by decide +kernel) (pa_cons (pe_lc (own := [("entry", 2), ("now", 3)]) (g := gTup K 2 (gCons (gName 2) (gCons (gName 3) gNil))) (tt := _) rfl scmoving.nd (pi_zpA (K := K) rfl (by rfl) T.b_zip (pa_cons (pv 0) (pa_cons (pv 1) pa_nil)))
      (blkOk_by (own := [("entry", 2), ("now", 3)]) (N := ["before", "after", "entry", "now"]) (sc := defScope smoving) (by decide +kernel)) (fun _ _ _ _ _ => (pg_tup rfl (pgs_cons (pg_name (i := 2) scmoving.nd rfl (.inl rfl)) (pgs_cons (pg_name (i := 3) scmoving.nd rfl (.inl rfl)) pgs_nil)))) (fun _ _ _ _ _ => pts_one (pt_cmpR (r := rIn K true) op_notIn_seq (pv 3) (pe_tup (pa_cons (pv 2) (pa_cons (Rv.pe_k (by rfl) T.k_EMPTY) pa_nil))) (by rfl)))
      (fun _ _ _ _ _ => (pv 3))) pa_nil)) pa_nil))))), ?_⟩
    walk_at "rx"
    refine ⟨v1, v2, rfl, ?_⟩
    rcases hc with ⟨a, b, es, fs, rfl, rfl, r, q⟩ | hc
    · refine .inl ⟨a, b, es, fs, rfl, rfl, r, fun H1 S1 => ?_⟩
      have R := r.rn
      have e12 := r.ia.2.1
      have lf := R.len
      have r1 := r.same S1
      have ha1 := r1.ta
      have hb1 := r1.tb
      have ml : ∀ i, (mvA es fs i).length ≤ i := fun i => by
        have := List.length_filter_le (fun b => !decide (fs.getD b 0 = es.getD b 0) && !decide (fs.getD b 0 = -1)) (List.range i)
        rw [List.length_range] at this
        unfold mvA
        rw [List.length_map]
        exact this
      walk_at "rx"
      refine rd_ZpO ha1 hb1 ?_
      refine lc_acc (walk_zipT (n := es.length) (xs := es.map V.int) (ys := fs.map V.int) (by rw [List.length_map, List.length_map]; omega)) (fun i acc => acc = (mvA es fs i).map V.int) rfl (fun i acc hi e => by
        rw [e, List.length_map]
        have := ml i
        omega) (fun H' S => ⟨(ha1.same S).sq, (hb1.same S).sq⟩) ?_ ?_
      · rintro i x Hx Hy acc Qc R2 hi Sx e ⟨T1, u, w, rfl, nT, rfl, e3, e4⟩ qc rc
        have e5 : (es.map V.int)[i]? = some u := e3
        have e6 : (fs.map V.int)[i]? = some w := e4
        rw [List.getElem?_map, get_at hi] at e5
        rw [List.getElem?_map, get_at (by omega)] at e6
        cases e5
        cases e6
        have S4 := same_new (o := .tup [V.int (es.getD i 0), V.int (fs.getD i 0)]) (Same.refl Hx) nT
        have nx : mvA es fs (i + 1) = mvA es fs i ++ if fs.getD i 0 ∈ [es.getD i 0, -1] then [] else [fs.getD i 0] := by
          unfold mvA
          rw [List.range_succ, List.filter_append, List.map_append]
          congr 1
          by_cases z : fs.getD i 0 ∈ [es.getD i 0, -1]
          · rw [if_pos z, List.filter_cons_of_neg (by simp only [List.mem_cons, List.not_mem_nil, or_false] at z; rw [Bool.and_eq_true, Bool.not_eq_true', Bool.not_eq_true', decide_eq_false_iff_not, decide_eq_false_iff_not]; exact fun k => z.elim k.1 k.2)]; rfl
          · rw [if_neg z, List.filter_cons_of_pos (by simp only [List.mem_cons, List.not_mem_nil, or_false, not_or] at z; rw [Bool.and_eq_true, Bool.not_eq_true', Bool.not_eq_true', decide_eq_false_iff_not, decide_eq_false_iff_not]; exact z)]; rfl
        walk_at "rx"
        refine ⟨rfl, ?_⟩
        walk_at "rx"
        refine rd_newQ (by simp) fun H5 p5 S5 n5 h5 => ?_
        refine rd_ninT h5 rfl rfl ?_
        have hin : inV (V.int (fs.getD i 0)) [V.int (es.getD i 0), V.int (-1)] = decide (fs.getD i 0 ∈ [es.getD i 0, -1]) := inV_ints (ns := [es.getD i 0, -1])
        rw [hin]
        by_cases z : fs.getD i 0 ∈ [es.getD i 0, -1]
        · rw [decide_eq_true z]
          walk_at "rx"
          refine rc _ (S4.trans S5) ?_
          rw [nx, if_pos z, List.append_nil]
          exact e
        · rw [decide_eq_false z]
          walk_at "rx"
          refine qc _ _ (S4.trans S5) ?_
          rw [nx, if_neg z, List.map_append, e]
          rfl
      · intro H2 D acc S2 nD hD e
        have := ml es.length
        rw [e] at hD
        walk_at "rx"
        refine rd_sorted hD (by omega) fun H3 p3 ms S3 n3 h3 pm pw => ?_
        walk_at "rx"
        refine rd_newL fun H4 p4 S4 n4 h4 => q H4 p4 ms (((S1.trans S2).trans S3).trans S4) h4 pm pw
    · exact .inr hc
def spfewest_moves (K : PySem.W.Frag) : Sp := fun vs H Q E => ∃ (v1 v2 : V), vs = [v1, v2] ∧ PairS K H v1 v2 E fun _ _ es fs => CfQ K H (∀ H', Same H H' → Q (.int (((mvA es fs es.length).length + (rngs es fs).length : Nat) : Int)) H') E es fs
set_option maxHeartbeats 4000000 in
theorem okfewest_moves (T : Top K mg) {f : Addr} {fd : FuncData} (D : Def K mg "fewest_moves" sfewest_moves ["before", "after"] f fd) : FnOk P w K mg base (L2.CX P w) 10 f fd ["before", "after"] (spfewest_moves K) := by
  obtain ⟨f_check_free, fd_check_free, D_check_free⟩ := T.d__check_free
  have G_check_free : FnOk P w K mg base (L2.CX P w) 9 f_check_free fd_check_free ["before", "after"] (sp_check_free K) := ok_check_free T D_check_free
  obtain ⟨fmoving, fdmoving, Dmoving⟩ := T.d_moving
  have Gmoving : FnOk P w K mg base (L2.CX P w) 5 fmoving fdmoving ["before", "after"] (spmoving K) := okmoving T Dmoving
  obtain ⟨frings, fdrings, Drings⟩ := T.d_rings
  have Grings : FnOk P w K mg base (L2.CX P w) 6 frings fdrings ["before", "after"] (springs K) := okrings T Drings
  refine D.F.okX scfewest_moves (fun vs H Q E h => ?_) (fun cdv A outer s H vs Q E hr h => ?_)
  · obtain ⟨v1, v2, rfl, _⟩ := h
    rfl
  · obtain ⟨v1, v2, rfl, hc⟩ := h
    refine ⟨_, (pss_cons (ps_expr (pe_callS G_check_free hr (by rfl) D_check_free.g D_check_free.F.kp D_check_free.b (fun σ => passAt (takes_of rfl rfl rfl rfl) σ) (pa_cons (pv 0) (pa_cons (pv 1) pa_nil))))
    (pss_one (ps_ret (pe_op op_add (pe_callB (r := rLenQ K) call_lenQ (by rfl) T.b_len PySem.boot_len (pa_cons (pe_callS Gmoving (hr.mono (by decide)) (by rfl) Dmoving.g Dmoving.F.kp Dmoving.b (fun σ => passAt (takes_of rfl rfl rfl rfl) σ) (pa_cons (pv 0) (pa_cons (pv 1) pa_nil))) pa_nil)) (pe_callB (r := rLenQ K) call_lenQ (by rfl) T.b_len PySem.boot_len (pa_cons (pe_callS Grings (hr.mono (by decide)) (by rfl) Drings.g Drings.F.kp Drings.b (fun σ => passAt (takes_of rfl rfl rfl rfl) σ) (pa_cons (pv 0) (pa_cons (pv 1) pa_nil))) pa_nil)))))), ?_⟩
    walk_at "rx"
    refine ⟨v1, v2, rfl, ?_⟩
    rcases hc with ⟨a, b, es, fs, rfl, rfl, r, q⟩ | hc
    · refine .inl ⟨a, b, es, fs, rfl, rfl, r, fun h0 H1 S1 => ?_, q.q1, q.q4⟩
      have r1 := r.same S1
      walk_at "rx"
      refine ⟨_, _, rfl, .inl ⟨a, b, es, fs, rfl, rfl, r1, fun H2 p ms S2 hp pm pw => ?_⟩⟩
      have r2 := r1.same S2
      have lm := pm.length_eq
      have lm2 : (mvA es fs es.length).length ≤ es.length := by
        have l2 := List.length_filter_le (fun b => !decide (fs.getD b 0 = es.getD b 0) && !decide (fs.getD b 0 = -1)) (List.range es.length)
        rw [List.length_range] at l2
        unfold mvA
        rw [List.length_map]
        exact l2
      have e12 := r.ia.2.1
      walk_at "rx"
      refine ⟨_, _, rfl, .inl ⟨a, b, es, fs, rfl, rfl, r2, fun H3 l bs S3 hl tb _ => ?_⟩⟩
      have lb := NRows.len tb
      have ls2 : (tops es fs es.length).length ≤ es.length := by
        have := List.length_filter_le (fun b => decide (IsR (G es fs) (Fo es fs b))) (List.range es.length)
        rw [List.length_range] at this
        exact this
      rw [List.length_map] at lb
      walk_at "rx"
      have := q.q0 h0 _ ((S1.trans S2).trans S3)
      rw [List.length_map, List.length_map, lm, lb]
      unfold rngs at this
      rw [List.length_map] at this
      exact this
    · exact .inr hc
def sp_law_number (_K : PySem.W.Frag) : Sp := fun vs H Q _ => ∃ i : Int, vs = [.int i] ∧ Q (.bl true) H
set_option maxHeartbeats 4000000 in
theorem ok_law_number (T : Top K mg) {f : Addr} {fd : FuncData} (D : Def K mg "_law_number" s_law_number ["told"] f fd) : FnOk P w K mg base CX0 1 f fd ["told"] (sp_law_number K) := by
  refine D.F.ok sc_law_number (fun vs H Q E h => ?_) (fun cdv A outer s H vs Q E hr h => ?_)
  · obtain ⟨i, rfl, _⟩ := h
    rfl
  · obtain ⟨i, rfl, q⟩ := h
    refine ⟨_, (pss_one (ps_ret (pe_and (pe_callB (r := rIsi K) call_isi (by rfl) T.b_isinstance (by decide +kernel) (pa_cons (pv 0) (pa_cons (pe_bltn (v := .ty "int") (by rfl) T.b_int (by decide +kernel) rfl) pa_nil))) (pe_one (pe_not (pe_callB (r := rIsi K) call_isi (by rfl) T.b_isinstance (by decide +kernel) (pa_cons (pv 0) (pa_cons (pe_bltn (v := .ty "bool") (by rfl) T.b_bool (by decide +kernel) rfl) pa_nil)))))))), ?_⟩
    walk_at "rx"
    exact q
set_option maxHeartbeats 4000000 in
theorem okQ_law_number (T : Top K mg) {f : Addr} {fd : FuncData} (D : Def K mg "_law_number" s_law_number ["told"] f fd) : FnQ P w K mg base 1 f fd ["told"] (sp_law_number K) := by
  refine fn_Q D.F sc_law_number (fun vs H Q E h => ?_) (fun cdv A outer s H vs Q E p hr h => ?_)
  · obtain ⟨i, rfl, _⟩ := h
    rfl
  · obtain ⟨i, rfl, q⟩ := h
    refine ⟨_, (pss_one (ps_ret (pe_and (pe_callB (r := rIsi K) call_isi (by rfl) T.b_isinstance (by decide +kernel) (pa_cons (pv 0) (pa_cons (pe_bltn (v := .ty "int") (by rfl) T.b_int (by decide +kernel) rfl) pa_nil))) (pe_one (pe_not (pe_callB (r := rIsi K) call_isi (by rfl) T.b_isinstance (by decide +kernel) (pa_cons (pv 0) (pa_cons (pe_bltn (v := .ty "bool") (by rfl) T.b_bool (by decide +kernel) rfl) pa_nil)))))))), ?_⟩
    walk_at "rx"
    exact q
def sp_law_moved (_K : PySem.W.Frag) : Sp := fun vs H Q _ => ∃ (a b : Addr) (es fs : List Int), vs = [.ref a, .ref b] ∧ RP H a b es fs ∧ ∀ H' d, Same H H' → H' d = some (.lst ((mvB es fs es.length).map V.int)) → Q (.ref d) H'
set_option maxHeartbeats 4000000 in
theorem ok_law_moved (T : Top K mg) {f : Addr} {fd : FuncData} (D : Def K mg "_law_moved" s_law_moved ["before", "after"] f fd) : FnOk P w K mg base CX0 1 f fd ["before", "after"] (sp_law_moved K) := by
  refine D.F.ok sc_law_moved (fun vs H Q E h => ?_) (fun cdv A outer s H vs Q E hr h => ?_)
  · obtain ⟨a, b, es, fs, rfl, _⟩ := h
    rfl
  · obtain ⟨a, b, es, fs, rfl, r, q⟩ := h
    have R := r.rn
    have e12 := r.ia.2.1
    refine ⟨_, (pss_one (ps_ret (pe_lc (own := [("value", 2)]) (g := gName 2) (tt := _) rfl sc_law_moved.nd (pi_tup (pv 0))
      (blkOk_by (own := [("value", 2)]) (N := ["before", "after", "value"]) (sc := defScope s_law_moved) (by decide +kernel)) (fun _ _ _ _ _ => (pg_name (i := 2) sc_law_moved.nd rfl (.inl rfl))) (fun _ _ _ _ _ => pts_one (PW.pt (pw_and (pt_cmpR op_ne (pv 2) (pe_un un_neg pe_int) (nomark _)) (pw_and1 (pt_cmpR op_ne (pe_tix (pv 0) (pv 2)) (pe_tix (pv 1) (pv 2)) (nomark _))))))
      (fun _ _ _ _ _ => (pv 2))))), ?_⟩
    have ha := r.ta
    walk_at "rx"
    refine lc_acc (walk_tup (xs := es.map V.int)) (fun i acc => acc = (mvB es fs i).map V.int) rfl (fun i acc hi e => by
      have := mvB_len es fs i
      rw [List.length_map] at hi
      rw [e, List.length_map]
      omega) (fun H' S => (ha.same S).sq) ?_ ?_
    · rintro i x Hx Hy acc Qc R2 hi Sx e ⟨rfl, ex⟩ qc rc
      have hi2 : i < es.length := by rw [List.length_map] at hi; exact hi
      rw [List.getElem?_map, get_at hi2] at ex
      cases ex
      have rx := r.same Sx
      have nx := mvB_next es fs i
      have me := mem_at hi2
      have mf := R.pm.mem_iff.mp me
      walk_at "rx"
      refine ⟨rfl, ?_⟩
      walk_at "rx"
      by_cases z : es.getD i 0 = -1
      · rw [decide_eq_true (show V.int (es.getD i 0) = V.int (-1) from by rw [z])]
        walk_at "rx"
        refine rc _ (Same.refl _) ?_
        rw [nx, if_neg (by rw [decide_eq_true z]; simp), List.append_nil]
        exact e
      · rw [decide_eq_false (show ¬ V.int (es.getD i 0) = V.int (-1) from fun w => z (V.int.inj w))]
        walk_at "rx"
        refine rd_tixI rfl rfl rx.ga me ?_
        walk_at "rx"
        refine rd_tixI rfl rfl rx.gb mf ?_
        walk_at "rx"
        by_cases y : es.idxOf (es.getD i 0) = fs.idxOf (es.getD i 0)
        · rw [decide_eq_true (show V.int ((es.idxOf (es.getD i 0) : Nat) : Int) = V.int ((fs.idxOf (es.getD i 0) : Nat) : Int) from by rw [y])]
          walk_at "rx"
          refine rc _ (Same.refl _) ?_
          rw [nx, if_neg (by rw [decide_eq_true y]; simp), List.append_nil]
          exact e
        · rw [decide_eq_false (show ¬ V.int ((es.idxOf (es.getD i 0) : Nat) : Int) = V.int ((fs.idxOf (es.getD i 0) : Nat) : Int) from fun w => y (by have := V.int.inj w; omega))]
          walk_at "rx"
          refine qc _ _ (Same.refl _) ?_
          rw [nx, if_pos (by rw [decide_eq_false z, decide_eq_false y]; rfl), List.map_append, e]
          rfl
    intro H13 D13 acc S13 nD13 hD13 e
    rw [e, List.length_map] at hD13
    walk_at "rx"
    exact q _ _ S13 hD13
def sp_law_bound_holds (_K : PySem.W.Frag) : Sp := fun vs H Q _ => ∃ (a b : Addr) (es fs : List Int) (n : Nat), vs = [.ref a, .ref b, .int (n : Int)] ∧ RP H a b es fs ∧ vdt es fs = 0 ∧ phi es fs ≤ n ∧ ∀ H', Same H H' → Q (.bl true) H'
set_option maxHeartbeats 4000000 in
theorem ok_law_bound_holds (T : Top K mg) {f : Addr} {fd : FuncData} (D : Def K mg "_law_bound_holds" s_law_bound_holds ["before", "after", "fired"] f fd) : FnOk P w K mg base CX0 11 f fd ["before", "after", "fired"] (sp_law_bound_holds K) := by
  obtain ⟨ffewest_moves, fdfewest_moves, Dfewest_moves⟩ := T.d_fewest_moves
  have Gfewest_moves : FnOk P w K mg base (L2.CX P w) 10 ffewest_moves fdfewest_moves ["before", "after"] (spfewest_moves K) := okfewest_moves T Dfewest_moves
  obtain ⟨f_law_number, fd_law_number, D_law_number⟩ := T.d__law_number
  have G_law_number : FnOk P w K mg base CX0 1 f_law_number fd_law_number ["told"] (sp_law_number K) := ok_law_number T D_law_number
  obtain ⟨f_law_moved, fd_law_moved, D_law_moved⟩ := T.d__law_moved
  have G_law_moved : FnOk P w K mg base CX0 1 f_law_moved fd_law_moved ["before", "after"] (sp_law_moved K) := ok_law_moved T D_law_moved
  obtain ⟨f_law_loops, fd_law_loops, D_law_loops⟩ := T.d__law_loops
  have G_law_loops : FnOk P w K mg base CX0 2 f_law_loops fd_law_loops ["before", "after"] (sp_law_loops K) := ok_law_loops T D_law_loops
  refine D.F.ok sc_law_bound_holds (fun vs H Q E h => ?_) (fun cdv A outer s H vs Q E hr h => ?_)
  · obtain ⟨a, b, es, fs, n, rfl, _⟩ := h
    rfl
  · obtain ⟨a, b, es, fs, n, rfl, r, v0, le, q⟩ := h
    have R := r.rn
    refine ⟨_, (pss_cons (ps_set (i := 3) sc_law_bound_holds.nd rfl (.inl rfl) (pe_call Gfewest_moves hr (by rfl) Dfewest_moves.g Dfewest_moves.F.kp Dfewest_moves.b .nil passL (pa_cons (pv 0) (pa_cons (pv 1) pa_nil))))
    (pss_cons (ps_if (PW.pt (pw_or (pt_not (pt_val (pe_call G_law_number (hr.mono (by decide)) (by rfl) D_law_number.g D_law_number.F.kp D_law_number.b .nil pass0 (pa_cons (pv 3) pa_nil)))) (pw_or1 (pt_cmpR op_gt (pv 3) (pv 2) (nomark _))))) (pss_one (ps_ret pe_bl)) pss_nil)
    (pss_one (ps_ret (pe_cmpR op_eq (pv 3) (pe_op op_add (pe_callB (r := rLenQ K) call_lenQ (by rfl) T.b_len PySem.boot_len (pa_cons (pe_call G_law_moved (hr.mono (by decide)) (by rfl) D_law_moved.g D_law_moved.F.kp D_law_moved.b .nil pass0 (pa_cons (pv 0) (pa_cons (pv 1) pa_nil))) pa_nil)) (pe_callB (r := rLenQ K) call_lenQ (by rfl) T.b_len PySem.boot_len (pa_cons (pe_call G_law_loops (hr.mono (by decide)) (by rfl) D_law_loops.g D_law_loops.F.kp D_law_loops.b .nil pass0 (pa_cons (pv 0) (pa_cons (pv 1) pa_nil))) pa_nil))) (nomark _)))))), ?_⟩
    walk_at "rx"
    refine ⟨.ref a, .ref b, rfl, .inl ⟨a, b, es, fs, rfl, rfl, r, ⟨fun _ H1 S1 => ?_, fun k v k0 => absurd (v0.symm.trans v).symm k0, fun v => by rw [v0] at v; cases v⟩⟩⟩
    have r1 := r.same S1
    have lm : (mvA es fs es.length).length + (rngs es fs).length = phi es fs := by unfold phi; rw [mvA_len]
    rw [lm]
    walk_at "rx"
    refine ⟨_, rfl, ?_⟩
    walk_at "rx"
    rw [decide_eq_false (show ¬ (n : Int) < ((phi es fs : Nat) : Int) by omega)]
    walk_at "rx"
    refine ⟨a, b, es, fs, rfl, r1, fun H2 d S2 hd => ?_⟩
    have r2 := r1.same S2
    walk_at "rx"
    refine ⟨a, b, es, fs, rfl, r2, fun H3 l bs S3 hl tb => ?_⟩
    walk_at "rx"
    have lb := NRows.len tb
    have lB : (mvB es fs es.length).length = (mvA es fs es.length).length := (RQ.mv_perm R).symm.length_eq
    rw [decide_eq_true (show V.int ((phi es fs : Nat) : Int) = V.int ((((mvB es fs es.length).map V.int).length : Nat) + ((bs.map V.ref).length : Nat)) by rw [List.length_map, List.length_map, lB, lb, ← lm]; rfl)]
    exact q _ ((S1.trans S2).trans S3)
def sp_law_fired (_K : PySem.W.Frag) : Sp := fun vs H Q _ => ∃ (l x : Addr) (L : List Ln) (g : List Int), vs = [.ref l, .ref x] ∧ LsAt H l L ∧ GT H x g ∧ Rg g ∧ g.length ≤ 12 ∧ L.length ≤ 100 ∧ (∀ r ∈ L, MvL g.length r) ∧ ∀ H', Same H H' → Q (.int ((cnt L g : Nat) : Int)) H'
set_option maxHeartbeats 4000000 in
theorem ok_law_fired (T : Top K mg) {f : Addr} {fd : FuncData} (D : Def K mg "_law_fired" s_law_fired ["lines", "now"] f fd) : FnOk P w K mg base CX0 4 f fd ["lines", "now"] (sp_law_fired K) := by
  obtain ⟨f_law_after_line, fd_law_after_line, D_law_after_line⟩ := T.d__law_after_line
  have G_law_after_line : FnOk P w K mg base CX0 3 f_law_after_line fd_law_after_line ["line", "now"] (sp_law_after_line K) := ok_law_after_line T D_law_after_line
  obtain ⟨f_law_fires, fd_law_fires, D_law_fires⟩ := T.d__law_fires
  have G_law_fires : FnOk P w K mg base CX0 2 f_law_fires fd_law_fires ["line", "now"] (sp_law_fires K) := ok_law_fires T D_law_fires
  refine D.F.ok sc_law_fired (fun vs H Q E h => ?_) (fun cdv A outer s H vs Q E hr h => ?_)
  · obtain ⟨l, x, L, g, rfl, _⟩ := h
    rfl
  · obtain ⟨l, x, L, g, rfl, ⟨ps, hl, tp⟩, gx, Rg1, l12, l100, ml, q⟩ := h
    refine ⟨_, (pss_cons (ps_set (i := 2) sc_law_fired.nd rfl (.inl rfl) pe_int)
    (pss_cons (ps_for PassesOwn.never rfl (pi_list (pv 0)) (pg_name (i := 3) sc_law_fired.nd rfl (.inl rfl)) (pss_cons (ps_set (i := 2) sc_law_fired.nd rfl (.inl rfl) (pe_op op_add (pv 2) (pe_callTy call_intB (by rfl) T.b_int (by decide +kernel) (pa_cons (pe_call G_law_fires (hr.mono (by decide)) (by rfl) D_law_fires.g D_law_fires.F.kp D_law_fires.b .nil pass0 (pa_cons (pv 3) (pa_cons (pv 1) pa_nil))) pa_nil))))
    (pss_one (ps_set (i := 1) sc_law_fired.nd rfl (.inl rfl) (pe_call G_law_after_line hr (by rfl) D_law_after_line.g D_law_after_line.F.kp D_law_after_line.b .nil pass0 (pa_cons (pv 3) (pa_cons (pv 1) pa_nil)))))))
    (pss_one (ps_ret (pv 2))))), ?_⟩
    walk_at "rx"
    have lps : ps.length = L.length := by rw [tp.1]; exact List.length_map ..
    refine fr_it (walk_list (xs := ps.map V.ref)) (fun k σ H' => ∃ (y : Addr) (c : Nat) (y3 : Option V), σ = [some (.ref l), some (.ref y), some (.int (c : Int)), y3] ∧ Same H H' ∧ GT H' y (run (L.take k) g) ∧ c + cnt (L.drop k) (run (L.take k) g) = cnt L g) ⟨x, 0, _, rfl, Same.refl _, gx, Nat.zero_add _⟩ (fun k σ H' _ pp => ?_) ?_ ?_
    · obtain ⟨_, _, _, _, S, _⟩ := pp
      exact SqL.of (S _ _ hl)
    · rintro k v σ H1 H2 hk ⟨y, c, y3, rfl, S, ty, ec⟩ ⟨rfl, ex⟩
      rw [List.length_map, lps] at hk
      obtain ⟨p, e2, hp⟩ := (TupsAt.same S tp).2 k _ (by unfold rows; rw [List.getElem?_map, List.getElem?_eq_getElem hk]; rfl)
      rw [List.getElem?_map, e2] at ex
      cases ex
      have mk : ∀ r ∈ L.take k, MvL g.length r := fun r hr => ml r (List.mem_of_mem_take hr)
      have lr := run_len (L.take k) g
      have rg := run_rg _ _ Rg1 mk
      have mr : MvL (run (L.take k) g).length L[k] := by rw [lr]; exact ml _ (List.getElem_mem hk)
      have ec2 : c + ((if fir L[k] (run (L.take k) g) = true then 1 else 0) + cnt (L.drop (k + 1)) (run (L.take (k + 1)) g)) = cnt L g := by
        rw [← ec, List.drop_eq_getElem_cons hk, take_next hk, RH.run_snoc]; rfl
      walk_at "rx"
      refine ⟨p, y, L[k], run (L.take k) g, rfl, hp, .inr ty, rg, by omega, mr, ?_⟩
      walk_at "rx"
      refine rd_intB ?_
      walk_at "rx"
      refine ⟨p, y, L[k], run (L.take k) g, rfl, hp, ty, rg, by omega, mr, fun H3 z S3 tz => ?_⟩
      walk_at "rx"
      refine ⟨z, c + (if fir L[k] (run (L.take k) g) = true then 1 else 0), some (.ref p), ?_, S.trans S3, by rw [take_next hk, RH.run_snoc]; exact tz, by omega⟩
      cases fir L[k] (run (L.take k) g) <;> rfl
    · rintro σ H1 ⟨y, c, y3, rfl, S, ty, ec⟩
      rw [List.length_map, lps, List.drop_length] at ec
      walk_at "rx"
      rw [show c = cnt L g by rw [← ec]; rfl]
      exact q _ S
def sp_law_same_loops (_K : PySem.W.Frag) : Sp := fun vs H Q _ => ∃ (u v : Addr) (bs cs : List Addr) (es fs : List Int), vs = [.ref u, .ref v] ∧ H u = some (.tup (bs.map V.ref)) ∧ NRows H bs (rngs es fs) ∧ H v = some (.tup (cs.map V.ref)) ∧ NRows H cs (rngs es fs) ∧ Ren es fs ∧ es.length ≤ 12 ∧ ∀ H', Same H H' → Q (.bl true) H'
set_option maxHeartbeats 4000000 in
theorem ok_law_same_loops (T : Top K mg) {f : Addr} {fd : FuncData} (D : Def K mg "_law_same_loops" s_law_same_loops ["told", "due"] f fd) : FnOk P w K mg base CX0 2 f fd ["told", "due"] (sp_law_same_loops K) := by
  obtain ⟨f_law_number, fd_law_number, D_law_number⟩ := T.d__law_number
  have G_law_number : FnOk P w K mg base CX0 1 f_law_number fd_law_number ["told"] (sp_law_number K) := ok_law_number T D_law_number
  refine D.F.ok sc_law_same_loops (fun vs H Q E h => ?_) (fun cdv A outer s H vs Q E hr h => ?_)
  · obtain ⟨u, v, bs, cs, es, fs, rfl, _⟩ := h
    rfl
  · obtain ⟨u, v, bs, cs, es, fs, rfl, hu, tu, hv, tv, R, e12, q⟩ := h
    have lb := NRows.len tu
    have few := rngs_few (es := es) (fs := fs)
    refine ⟨_, (pss_cons (ps_if (pt_not (pt_val (pe_callB (r := rIsi K) call_isi (by rfl) T.b_isinstance (by decide +kernel) (pa_cons (pv 0) (pa_cons (pe_bltn (v := .ty "tuple") (by rfl) T.b_tuple (by decide +kernel) rfl) pa_nil))))) (pss_one (ps_ret pe_bl)) pss_nil)
    (pss_cons (ps_for PassesOwn.never rfl (pi_tup (pv 0)) (pg_name (i := 2) sc_law_same_loops.nd rfl (.inl rfl)) (pss_one (ps_if (PW.pt (pw_or (pt_not (pt_val (pe_callB (r := rIsi K) call_isi (by rfl) T.b_isinstance (by decide +kernel) (pa_cons (pv 2) (pa_cons (pe_bltn (v := .ty "tuple") (by rfl) T.b_tuple (by decide +kernel) rfl) pa_nil))))) (pw_or1 (pt_not (pt_val (pe_callB (r := rAll K) (cr_all rfl) (by rfl) T.b_all (by decide +kernel) (pa_cons (pe_lc (own := [("block", 3)]) (g := gName 3) (tt := tYes) rfl sc_law_same_loops.nd (pi_tup (pv 2))
      (blkOk_by (own := [("block", 3)]) (N := ["told", "due", "row", "block"]) (sc := defScope s_law_same_loops) (by decide +kernel)) (fun _ _ _ _ _ => (pg_name (i := 3) sc_law_same_loops.nd rfl (.inl rfl))) (fun _ _ _ _ _ => pts_nil)
      (fun _ _ _ _ _ => (pe_call G_law_number hr (by rfl) D_law_number.g D_law_number.F.kp D_law_number.b .nil pass0 (pa_cons (pv 3) pa_nil)))) pa_nil))))))) (pss_one (ps_ret pe_bl)) pss_nil)))
    (pss_one (ps_ret (pe_cmpR (op_eqD hr.units) (pe_callB (r := rSortR K) (cr_sortR (by exact hr.units)) (by rfl) T.b_sorted (by decide +kernel) (pa_cons (pe_callTy (r := rLstQ K) call_lstQ (by rfl) T.b_list (by decide +kernel) (pa_cons (pv 0) pa_nil)) pa_nil)) (pe_callTy (r := rLstQ K) call_lstQ (by rfl) T.b_list (by decide +kernel) (pa_cons (pv 1) pa_nil)) (nomark _)))))), ?_⟩
    walk_at "rx"
    refine fr_it (walk_tup (xs := bs.map V.ref)) (fun i σ H' => ∃ (y2 y3 : Option V), σ = [some (.ref u), some (.ref v), y2, y3] ∧ Same H H') ⟨none, none, rfl, Same.refl _⟩ (fun i σ H' _ pp => ?_) ?_ ?_
    · obtain ⟨_, _, _, S⟩ := pp
      exact SqT.of (S _ _ hu)
    · rintro i x σ H1 H2 hi ⟨y2, y3, rfl, S⟩ ⟨rfl, ex⟩
      rw [List.length_map] at hi
      have eb : bs[i]? = some bs[i] := List.getElem?_eq_getElem hi
      rw [List.getElem?_map, eb] at ex
      cases ex
      obtain ⟨p, e1, e2⟩ := NRows.get (NRows.same tu S) eb
      have lp := rngs_len R (List.mem_of_getElem? e1)
      walk_at "rx"
      refine lc_map (walk_tup (xs := nvs p)) ((p.map fun _ => true).map V.bl) ?_ ?_ (fun H' S => SqT.of (S _ _ e2)) ?_ ?_
      · rw [List.length_map, List.length_map, nvs_len]
      · rw [nvs_len]; omega
      · rintro j y H3 H4 Qc R2 hj S3 ⟨rfl, ey⟩ qc
        rw [nvs_len] at hj
        have ep : p[j]? = some p[j] := List.getElem?_eq_getElem hj
        rw [nvs_get ep] at ey
        cases ey
        walk_at "rx"
        refine ⟨rfl, ?_⟩
        walk_at "rx"
        exact ⟨_, rfl, qc _ _ (Same.refl _) (by rw [List.getElem?_map, List.getElem?_map, ep]; rfl)⟩
      intro H3 D S3 nD hD
      walk_at "rx"
      refine rd_all hD ?_
      rw [show (p.map fun _ => true).all id = true from List.all_eq_true.mpr fun x hx => by obtain ⟨_, _, rfl⟩ := List.mem_map.mp hx; rfl]
      walk_at "rx"
      exact ⟨_, _, rfl, S.trans S3⟩
    · rintro σ H1 ⟨y2, y3, rfl, S⟩
      have hu1 := S _ _ hu
      walk_at "rx"
      refine rd_newL fun H2 L S2 nL hL => ?_
      have S12 := S.trans S2
      walk_at "rx"
      refine rd_sortR hL (NRows.same tu S12) (rngs_ne R) (rngs_pw R) fun ds td => ?_
      refine rd_newL fun H3 M S3 nM hM => ?_
      have S13 := S12.trans S3
      have hv3 := S13 _ _ hv
      walk_at "rx"
      refine rd_newL fun H4 N S4 nN hN => ?_
      have hM4 := S4 _ _ hM
      refine rd_eqRR hM4 (NRows.same td (S3.trans S4)) hN (NRows.same tv (S13.trans S4)) ?_
      walk_at "rx"
      exact q _ (S13.trans S4)
def sp_law_same_reason (_K : PySem.W.Frag) : Sp := fun vs H Q _ => ∃ (p p2 : Addr) (k : Nat) (es fs : List Int), vs = [.ref p, .ref p2] ∧ RsnAt H p k es fs ∧ RsnAt H p2 k es fs ∧ Ren es fs ∧ es.length ≤ 12 ∧ ∀ H', Same H H' → Q (.bl true) H'
set_option maxHeartbeats 4000000 in
theorem ok_law_same_reason (T : Top K mg) {f : Addr} {fd : FuncData} (D : Def K mg "_law_same_reason" s_law_same_reason ["told", "due"] f fd) : FnOk P w K mg base CX0 3 f fd ["told", "due"] (sp_law_same_reason K) := by
  obtain ⟨f_law_same_loops, fd_law_same_loops, D_law_same_loops⟩ := T.d__law_same_loops
  have G_law_same_loops : FnOk P w K mg base CX0 2 f_law_same_loops fd_law_same_loops ["told", "due"] (sp_law_same_loops K) := ok_law_same_loops T D_law_same_loops
  refine D.F.ok sc_law_same_reason (fun vs H Q E h => ?_) (fun cdv A outer s H vs Q E hr h => ?_)
  · obtain ⟨p, p2, k, es, fs, rfl, _⟩ := h
    rfl
  · obtain ⟨p, p2, k, es, fs, rfl, h1, h2, R, e12, q⟩ := h
    refine ⟨_, (pss_cons (ps_if (PW.pt (pw_or (pt_not (pt_val (pe_callB (r := rIsi K) call_isi (by rfl) T.b_isinstance (by decide +kernel) (pa_cons (pv 0) (pa_cons (pe_bltn (v := .ty "tuple") (by rfl) T.b_tuple (by decide +kernel) rfl) pa_nil))))) (pw_or1 (pt_cmpR op_ne (pe_callB (r := rLenQ K) call_lenQ (by rfl) T.b_len PySem.boot_len (pa_cons (pv 0) pa_nil)) (pe_callB (r := rLenQ K) call_lenQ (by rfl) T.b_len PySem.boot_len (pa_cons (pv 1) pa_nil)) (nomark _))))) (pss_one (ps_ret pe_bl)) pss_nil)
    (pss_cons (ps_if (PW.pt (pw_or (pt_not (pt_val (pe_callB (r := rIsi K) call_isi (by rfl) T.b_isinstance (by decide +kernel) (pa_cons (pe_ix (r := rIxT K) ix_tup (pv 0) pe_int (fun _ _ => rfl)) (pa_cons (pe_bltn (v := .ty "str") (by rfl) T.b_str (by decide +kernel) rfl) pa_nil))))) (pw_or1 (pt_cmpR op_ne (pe_ix (r := rIxT K) ix_tup (pv 0) pe_int (fun _ _ => rfl)) (pe_ix (r := rIxT K) ix_tup (pv 1) pe_int (fun _ _ => rfl)) (nomark _))))) (pss_one (ps_ret pe_bl)) pss_nil)
    (pss_one (ps_ret (pe_or (pe_cmpR op_eq (pe_callB (r := rLenQ K) call_lenQ (by rfl) T.b_len PySem.boot_len (pa_cons (pv 1) pa_nil)) pe_int (nomark _)) (pe_one (pe_call G_law_same_loops hr (by rfl) D_law_same_loops.g D_law_same_loops.F.kp D_law_same_loops.b .nil pass0 (pa_cons (pe_ix (r := rIxT K) ix_tup (pv 0) pe_int (fun _ _ => rfl)) (pa_cons (pe_ix (r := rIxT K) ix_tup (pv 1) pe_int (fun _ _ => rfl)) pa_nil))))))))), ?_⟩
    rcases h1 with ⟨k1, h1⟩ | ⟨k1, h1⟩ | ⟨k1, u, bs, h1, hu, tu⟩
    · rcases h2 with ⟨k2, h2⟩ | ⟨k2, h2⟩ | ⟨k2, v, cs, h2, hv, tv⟩
      · walk_at "rx"
        rw [decide_eq_true (show V.int (([V.str sFull].length : Nat) : Int) = V.int (([V.str sFull].length : Nat) : Int) from rfl)]
        walk_at "rx"
        rw [decide_eq_true (show V.str sFull = V.str sFull from rfl)]
        walk_at "rx"
        rw [decide_eq_true (show V.int (([V.str sFull].length : Nat) : Int) = V.int 1 from rfl)]
        walk_at "rx"
        exact q _ (Same.refl _)
      · omega
      · omega
    · rcases h2 with ⟨k2, h2⟩ | ⟨k2, h2⟩ | ⟨k2, v, cs, h2, hv, tv⟩
      · omega
      · walk_at "rx"
        rw [decide_eq_true (show V.int (([V.str sAlike].length : Nat) : Int) = V.int (([V.str sAlike].length : Nat) : Int) from rfl)]
        walk_at "rx"
        rw [decide_eq_true (show V.str sAlike = V.str sAlike from rfl)]
        walk_at "rx"
        rw [decide_eq_true (show V.int (([V.str sAlike].length : Nat) : Int) = V.int 1 from rfl)]
        walk_at "rx"
        exact q _ (Same.refl _)
      · omega
    · rcases h2 with ⟨k2, h2⟩ | ⟨k2, h2⟩ | ⟨k2, v, cs, h2, hv, tv⟩
      · omega
      · omega
      · walk_at "rx"
        rw [decide_eq_true (show V.int (([V.str sRings, V.ref u].length : Nat) : Int) = V.int (([V.str sRings, V.ref v].length : Nat) : Int) from rfl)]
        walk_at "rx"
        rw [decide_eq_true (show V.str sRings = V.str sRings from rfl)]
        walk_at "rx"
        rw [decide_eq_false (show ¬ V.int (([V.str sRings, V.ref v].length : Nat) : Int) = V.int 1 from fun w => by cases w)]
        walk_at "rx"
        exact ⟨u, v, bs, cs, es, fs, rfl, hu, tu, hv, tv, R, e12, fun H' S => q _ S⟩
def sp_law_ends_hold (_K : PySem.W.Frag) : Sp := fun vs H Q _ => ∃ (B : Box) (a l : Addr) (es : List Int) (L : List Ln), vs = [.ref B.b, .ref a, .ref l] ∧ IsBk B ∧ B.I H ∧ GT H a es ∧ Img es ∧ (full es).Nodup ∧ LsAt H l L ∧ L.length ≤ 100 ∧ (∀ r ∈ L, CaL es.length r) ∧ ∀ H', Wg B H H' → Q (.bl true) H'
set_option maxHeartbeats 4000000 in
theorem ok_law_ends_hold (T : Top K mg) {f : Addr} {fd : FuncData} (D : Def K mg "_law_ends_hold" s_law_ends_hold ["box", "image", "lines"] f fd) : FnOk P w K mg base CX0 12 f fd ["box", "image", "lines"] (sp_law_ends_hold K) := by
  obtain ⟨f_law_end, fd_law_end, D_law_end⟩ := T.d__law_end
  have G_law_end : FnOk P w K mg base CX0 4 f_law_end fd_law_end ["lines", "now"] (sp_law_end K) := ok_law_end T D_law_end
  obtain ⟨f_law_beginnings, fd_law_beginnings, D_law_beginnings⟩ := T.d__law_beginnings
  have G_law_beginnings : FnOk P w K mg base CX0 4 f_law_beginnings fd_law_beginnings ["lines", "image", "most"] (sp_law_beginnings K) := ok_law_beginnings T D_law_beginnings
  obtain ⟨f_law_due, fd_law_due, D_law_due⟩ := T.d__law_due
  have G_law_due : FnOk P w K mg base CX0 4 f_law_due fd_law_due ["safe", "before", "after"] (sp_law_due K) := ok_law_due T D_law_due
  obtain ⟨f_law_obstacle, fd_law_obstacle, D_law_obstacle⟩ := T.d__law_obstacle
  have G_law_obstacle : FnOk P w K mg base CX0 9 f_law_obstacle fd_law_obstacle ["before", "after"] (sp_law_obstacle K) := ok_law_obstacle T D_law_obstacle
  obtain ⟨f_law_judge_holds, fd_law_judge_holds, D_law_judge_holds⟩ := T.d__law_judge_holds
  have G_law_judge_holds : FnOk P w K mg base CX0 9 f_law_judge_holds fd_law_judge_holds ["box", "before", "after", "safe"] (sp_law_judge_holds K) := ok_law_judge_holds T D_law_judge_holds
  obtain ⟨f_law_bound_holds, fd_law_bound_holds, D_law_bound_holds⟩ := T.d__law_bound_holds
  have G_law_bound_holds : FnOk P w K mg base CX0 11 f_law_bound_holds fd_law_bound_holds ["before", "after", "fired"] (sp_law_bound_holds K) := ok_law_bound_holds T D_law_bound_holds
  obtain ⟨f_law_fired, fd_law_fired, D_law_fired⟩ := T.d__law_fired
  have G_law_fired : FnOk P w K mg base CX0 4 f_law_fired fd_law_fired ["lines", "now"] (sp_law_fired K) := ok_law_fired T D_law_fired
  obtain ⟨f_law_same_reason, fd_law_same_reason, D_law_same_reason⟩ := T.d__law_same_reason
  have G_law_same_reason : FnOk P w K mg base CX0 3 f_law_same_reason fd_law_same_reason ["told", "due"] (sp_law_same_reason K) := ok_law_same_reason T D_law_same_reason
  obtain ⟨f_law_same_loops, fd_law_same_loops, D_law_same_loops⟩ := T.d__law_same_loops
  have G_law_same_loops : FnOk P w K mg base CX0 2 f_law_same_loops fd_law_same_loops ["told", "due"] (sp_law_same_loops K) := ok_law_same_loops T D_law_same_loops
  refine D.F.ok sc_law_ends_hold (fun vs H Q E h => ?_) (fun cdv A outer s H vs Q E hr h => ?_)
  · obtain ⟨B, a, l, es, L, rfl, _⟩ := h
    rfl
  · obtain ⟨B, a, l, es, L, rfl, hB, i0, ga, I, nd, hL, l100, ca, q⟩ := h
    have ml : ∀ r ∈ L, MvL es.length r := fun r hr => (ca r hr).1
    have e12 := I.2.1
    have cl := cln_care L es I.2.2 ca
    have R := ren_run nd ml cl
    have lf := run_len L es
    have J : Img (run L es) := ⟨by rw [lf]; exact I.1, by rw [lf]; exact e12, run_rg L es I.2.2 ml⟩
    refine ⟨_, (pss_cons (ps_set (i := 3) sc_law_ends_hold.nd rfl (.inr rfl) (pe_call G_law_end (hr.mono (by decide)) (by rfl) D_law_end.g D_law_end.F.kp D_law_end.b .nil pass0 (pa_cons (pv 2) (pa_cons (pv 1) pa_nil))))
    (pss_cons (ps_set (i := 4) sc_law_ends_hold.nd rfl (.inl rfl) (pe_call G_law_beginnings (hr.mono (by decide)) (by rfl) D_law_beginnings.g D_law_beginnings.F.kp D_law_beginnings.b .nil pass0 (pa_cons (pv 2) (pa_cons (pv 1) (pa_cons pe_int pa_nil)))))
    (pss_cons (ps_if (pt_cmpR (op_eqD hr.units) (pv 4) (pe_lst pa_nil) (nomark _)) (pss_one (ps_ret pe_bl)) pss_nil)
    (pss_cons (ps_set (i := 5) sc_law_ends_hold.nd rfl (.inl rfl) (pe_cmpR (op_eqD hr.units) (pe_lc (own := [("now", 8)]) (g := gName 8) (tt := _) rfl sc_law_ends_hold.nd (pi_list (pv 4))
      (blkOk_by (own := [("now", 8)]) (N := ["box", "image", "lines", "final", "found", "safe", "due", "told", "now"]) (sc := defScope s_law_ends_hold) (by decide +kernel)) (fun _ _ _ _ _ => (pg_name (i := 8) sc_law_ends_hold.nd rfl (.inl rfl))) (fun _ _ _ _ _ => pts_one (pt_cmpR (r := rNeD K) (op_neD hr.units) (pe_call G_law_end (hr.mono (by decide)) (by rfl) D_law_end.g D_law_end.F.kp D_law_end.b .nil pass0 (pa_cons (pv 2) (pa_cons (pv 8) pa_nil))) (pv 3) (nomark _)))
      (fun _ _ _ _ _ => (pv 8))) (pe_lst pa_nil) (nomark _)))
    (pss_cons (ps_set (i := 6) sc_law_ends_hold.nd rfl (.inl rfl) (pe_call G_law_due (hr.mono (by decide)) (by rfl) D_law_due.g D_law_due.F.kp D_law_due.b .nil pass0 (pa_cons (pv 5) (pa_cons (pv 1) (pa_cons (pv 3) pa_nil)))))
    (pss_cons (ps_set (i := 7) sc_law_ends_hold.nd rfl (.inl rfl) (pe_call G_law_obstacle (hr.mono (by decide)) (by rfl) D_law_obstacle.g D_law_obstacle.F.kp D_law_obstacle.b .nil pass0 (pa_cons (pv 1) (pa_cons (pv 3) pa_nil))))
    (pss_cons (ps_if (PW.pt (pw_and (pt_cmpR op_eq (pe_ix (r := rIxL K) ix_list (pv 6) pe_int (fun _ _ => rfl)) pe_int (nomark _)) (pw_and1 (pt_cmpR (op_neD hr.units) (pv 7) (pe_lst (pa_cons pe_int (pa_cons pe_non pa_nil))) (nomark _))))) (pss_one (ps_ret pe_bl)) pss_nil)
    (pss_cons (ps_if (PW.pt (pw_and (pt_cmpR op_eq (pe_ix (r := rIxL K) ix_list (pv 6) pe_int (fun _ _ => rfl)) pe_int (nomark _)) (pw_and1 (PW.pt (pw_or (pt_cmpR op_ne (pe_ix (r := rIxL K) ix_list (pv 7) pe_int (fun _ _ => rfl)) pe_int (nomark _)) (pw_or1 (pt_not (pt_val (pe_call G_law_same_reason (hr.mono (by decide)) (by rfl) D_law_same_reason.g D_law_same_reason.F.kp D_law_same_reason.b .nil pass0 (pa_cons (pe_ix (r := rIxL K) ix_list (pv 7) pe_int (fun _ _ => rfl)) (pa_cons (pe_ix (r := rIxL K) ix_list (pv 6) pe_int (fun _ _ => rfl)) pa_nil))))))))))) (pss_one (ps_ret pe_bl)) pss_nil)
    (pss_cons (ps_if (PW.pt (pw_and (pt_cmpR op_eq (pe_ix (r := rIxL K) ix_list (pv 6) pe_int (fun _ _ => rfl)) pe_int (nomark _)) (pw_and1 (PW.pt (pw_or (pt_cmpR op_ne (pe_ix (r := rIxL K) ix_list (pv 7) pe_int (fun _ _ => rfl)) pe_int (nomark _)) (pw_or1 (pt_not (pt_val (pe_call G_law_same_loops (hr.mono (by decide)) (by rfl) D_law_same_loops.g D_law_same_loops.F.kp D_law_same_loops.b .nil pass0 (pa_cons (pe_ix (r := rIxL K) ix_list (pv 7) pe_int (fun _ _ => rfl)) (pa_cons (pe_ix (r := rIxL K) ix_list (pv 6) pe_int (fun _ _ => rfl)) pa_nil))))))))))) (pss_one (ps_ret pe_bl)) pss_nil)
    (pss_cons (ps_if (pt_not (pt_val (pe_call G_law_judge_holds (hr.mono (by decide)) (by rfl) D_law_judge_holds.g D_law_judge_holds.F.kp D_law_judge_holds.b .nil pass0 (pa_cons (pv 0) (pa_cons (pv 1) (pa_cons (pv 3) (pa_cons (pv 5) pa_nil))))))) (pss_one (ps_ret pe_bl)) pss_nil)
    (pss_one (ps_ret (pe_or (pe_cmpR op_ne (pe_ix (r := rIxL K) ix_list (pv 6) pe_int (fun _ _ => rfl)) pe_int (nomark _)) (pe_one (pe_call G_law_bound_holds hr (by rfl) D_law_bound_holds.g D_law_bound_holds.F.kp D_law_bound_holds.b .nil pass0 (pa_cons (pv 1) (pa_cons (pv 3) (pa_cons (pe_call G_law_fired (hr.mono (by decide)) (by rfl) D_law_fired.g D_law_fired.F.kp D_law_fired.b .nil pass0 (pa_cons (pv 2) (pa_cons (pv 1) pa_nil))) pa_nil)))))))))))))))))), ?_⟩
    walk_at "rx"
    refine ⟨l, a, L, es, rfl, hL, ga, I.2.2, e12, l100, ml, fun H1 y S1 gy => ?_⟩
    walk_at "rx"
    refine ⟨l, a, L, es, rfl, hL.same S1, ga.same S1, I.2.2, e12, l100, ml, fun H2 d xs gs S2 hd ig g100 gok all => ?_⟩
    have S12 := S1.trans S2
    have r2 : RP H2 a y es (run L es) := ⟨ga.same S12, gy.same S2, I, J, R⟩
    have w2 := (Wg.refl i0).same S12
    have lx : xs.length = gs.length := ig.1
    walk_at "rx"
    refine rd_newQ (by simp) fun H3 e3 S3 ne3 he3 => ?_
    have hd3 := S3 _ _ hd
    have ig3 := ig.same S3
    refine rd_eqIm0 hd3 ig3 he3 ?_
    by_cases e0 : gs = []
    · rw [decide_eq_true e0]
      walk_at "rx"
      exact q _ (w2.same S3)
    rw [decide_eq_false e0]
    have all := all.resolve_left e0
    have r3 := r2.same S3
    have hL3 := (hL.same S12).same S3
    walk_at "rx"
    refine lc_acc2 (walk_list (xs := xs.map V.ref)) (fun i acc H' => ∃ as : List Addr, acc = as.map V.ref ∧ ImsG H3 as (strays L (run L es) (gs.take i))) ⟨[], rfl, by rw [List.take_zero]; exact ⟨rfl, fun i x g a => by simp at a⟩⟩ (fun i acc H H' k pp => pp) (fun i acc H' hi pp => by obtain ⟨as, rfl, t⟩ := pp; have := strays_len L (run L es) gs i; have := t.1; rw [List.length_map]; omega) (fun H' S => SqL.of (S _ _ hd3)) ?_ ?_
    · rintro i x Hx Hy acc Qc R2 hi Sx ⟨as, rfl, t⟩ ⟨rfl, ex⟩ qc rc
      rw [List.length_map] at hi
      have eb : xs[i]? = some xs[i] := List.getElem?_eq_getElem hi
      have eg : gs[i]? = some gs[i] := List.getElem?_eq_getElem (by omega)
      rw [List.getElem?_map, eb] at ex
      cases ex
      have gi := ig3.2 i _ _ eb eg
      obtain ⟨rg, lg⟩ := gok _ (List.mem_of_getElem? eg)
      have nx := strays_next (L := L) (fs := run L es) eg
      generalize xs[i] = c at *
      generalize gs[i] = g at *
      walk_at "rx"
      refine ⟨rfl, ?_⟩
      walk_at "rx"
      refine ⟨l, c, L, g, rfl, hL3.same Sx, gi.same Sx, rg, by omega, l100, fun r hr => by rw [lg]; exact ml r hr, fun Hz z Sz gz => ?_⟩
      have Sxz := Sx.trans Sz
      walk_at "rx"
      refine rd_neI (.inr gz) (.inr (r3.gb.same Sxz)) ?_
      cases k : (!decide (run L g = run L es)) with
      | true =>
        walk_at "rx"
        refine qc _ _ Sz ⟨as ++ [c], by rw [List.map_append]; rfl, ?_⟩
        rw [nx, if_pos k]
        exact t.snoc gi
      | false =>
        walk_at "rx"
        refine rc _ Sz ⟨as, rfl, ?_⟩
        rw [nx, if_neg (by rw [k]; decide), List.append_nil]
        exact t
    intro H4 D acc S4 nD hD pp
    obtain ⟨as, rfl, t⟩ := pp
    rw [List.length_map, lx, List.take_length] at t
    walk_at "rx"
    refine rd_newQ (by simp) fun H5 e5 S5 ne5 he5 => ?_
    have S35 := S4.trans S5
    have r5 := r3.same S35
    have hL5 := hL3.same S35
    have w5 := (w2.same S3).same S35
    refine rd_eqIm0 (S5 _ _ hD) (t.same S35) he5 ?_
    have sf : decide (strays L (run L es) gs = []) = true → Saf es (run L es) := fun k => saf_of I.2.2 nd ca (safe_of all (of_decide_eq_true k))
    generalize decide (strays L (run L es) gs = []) = safe at sf
    walk_at "rx"
    refine ⟨safe, a, y, es, run L es, rfl, r5, sf, fun H6 d6 k p6 S6 hd6 due => ?_⟩
    have r6 := r5.same S6
    have w6 := w5.same S6
    have hL6 := hL5.same S6
    walk_at "rx"
    rcases due with ⟨rfl, v0⟩ | ⟨rfl, v, hv, v1, v4, hp⟩ | ⟨rfl, v4, bs, hp, tb⟩
    · refine ⟨a, y, es, run L es, rfl, r6, fun _ H7 l7 S7 h7 => ?_, fun k v k0 => absurd (v0.symm.trans v).symm k0, (fun v => by rw [v0] at v; cases v)⟩
      have hd7 := S7 _ _ hd6
      walk_at "rx"
      rw [decide_eq_true (show V.int ((0 : Nat) : Int) = V.int 0 from rfl)]
      walk_at "rx"
      refine rd_newQ (by simp) fun H8 m S8 nm hm => ?_
      refine rd_neZN (S8 _ _ h7) hm ?_
      have hd8 := S8 _ _ hd7
      walk_at "rx"
      rw [decide_eq_false (show ¬ V.int ((0 : Nat) : Int) = V.int 1 from by decide)]
      walk_at "rx"
      rw [decide_eq_false (show ¬ V.int ((0 : Nat) : Int) = V.int 2 from by decide)]
      have S68 := S7.trans S8
      have r8 := r6.same S68
      have w8 := w6.same S68
      walk_at "rx"
      refine ⟨B, a, y, es, run L es, safe, rfl, hB, w8.i1, r8, sf, fun H9 w9 => ?_⟩
      have hd9 := w9.lst (fun k => by obtain ⟨b, rfl⟩ := hB; obtain ⟨A, f, M, c, hb⟩ := w8.i1; rw [List.mem_singleton.mp k, hb] at hd8; cases hd8) hd8
      walk_at "rx"
      rw [decide_eq_true (show V.int ((0 : Nat) : Int) = V.int 0 from rfl)]
      walk_at "rx"
      refine ⟨l, a, L, es, rfl, (hL6.same S68).wg hB w9, r8.ga.wg w9, I.2.2, e12, l100, ml, fun Ha Sa => ?_⟩
      have r9 : RP H9 a y es (run L es) := ⟨r8.ga.wg w9, r8.gb.wg w9, I, J, R⟩
      walk_at "rx"
      refine ⟨a, y, es, run L es, cnt L es, rfl, r9.same Sa, v0, bound L nd ml cl, fun Hb Sb => ?_⟩
      exact q _ (((w8.trans w9).same Sa).same Sb)
    · refine ⟨a, y, es, run L es, rfl, r6, fun v0 => absurd (hv.symm.trans v0) v1, fun k vk k0 k4 H7 l7 p7 S7 h7 hp7 => ?_, fun v => absurd (hv.symm.trans v) v4⟩
      obtain rfl : v = k := hv.symm.trans vk
      have hd7 := S7 _ _ hd6
      walk_at "rx"
      rw [decide_eq_false (show ¬ V.int ((1 : Nat) : Int) = V.int 0 from by decide)]
      walk_at "rx"
      rw [decide_eq_true (show V.int ((1 : Nat) : Int) = V.int 1 from rfl)]
      walk_at "rx"
      rw [show (!decide (V.int 0 = V.int 0)) = false from rfl]
      walk_at "rx"
      refine ⟨p7, p6, v, es, run L es, rfl, hp7, hp.same S7, R, e12, fun H8 S8 => ?_⟩
      have S68 := S7.trans S8
      have hd8 := S8 _ _ hd7
      have w8 := w6.same S68
      walk_at "rx"
      rw [decide_eq_false (show ¬ V.int ((1 : Nat) : Int) = V.int 2 from by decide)]
      walk_at "rx"
      refine ⟨B, a, y, es, run L es, safe, rfl, hB, w8.i1, r6.same S68, sf, fun H9 w9 => ?_⟩
      have hd9 := w9.lst (fun k => by obtain ⟨b, rfl⟩ := hB; obtain ⟨A, f, M, c, hb⟩ := w8.i1; rw [List.mem_singleton.mp k, hb] at hd8; cases hd8) hd8
      walk_at "rx"
      rw [decide_eq_false (show ¬ V.int ((1 : Nat) : Int) = V.int 0 from by decide)]
      walk_at "rx"
      exact q _ (w8.trans w9)
    · refine ⟨a, y, es, run L es, rfl, r6, (fun v0 => by rw [v4] at v0; cases v0), fun k vk k0 k4 => absurd (vk.symm.trans v4) k4, fun _ H7 l7 t7 cs S7 h7 ht7 tc7 => ?_⟩
      have hd7 := S7 _ _ hd6
      walk_at "rx"
      rw [decide_eq_false (show ¬ V.int ((2 : Nat) : Int) = V.int 0 from by decide)]
      walk_at "rx"
      rw [decide_eq_false (show ¬ V.int ((2 : Nat) : Int) = V.int 1 from by decide)]
      walk_at "rx"
      rw [decide_eq_true (show V.int ((2 : Nat) : Int) = V.int 2 from rfl)]
      walk_at "rx"
      rw [show (!decide (V.int 2 = V.int 2)) = false from rfl]
      walk_at "rx"
      refine ⟨t7, p6, cs, bs, es, run L es, rfl, ht7, tc7, S7 _ _ hp, NRows.same tb S7, R, e12, fun H8 S8 => ?_⟩
      have S68 := S7.trans S8
      have hd8 := S8 _ _ hd7
      have w8 := w6.same S68
      walk_at "rx"
      refine ⟨B, a, y, es, run L es, safe, rfl, hB, w8.i1, r6.same S68, sf, fun H9 w9 => ?_⟩
      have hd9 := w9.lst (fun k => by obtain ⟨b, rfl⟩ := hB; obtain ⟨A, f, M, c, hb⟩ := w8.i1; rw [List.mem_singleton.mp k, hb] at hd8; cases hd8) hd8
      walk_at "rx"
      rw [decide_eq_false (show ¬ V.int ((2 : Nat) : Int) = V.int 0 from by decide)]
      walk_at "rx"
      exact q _ (w8.trans w9)
def sp_law_careful_holds (_K : PySem.W.Frag) : Sp := fun vs H Q _ => ∃ (B : Box) (a : Addr) (es : List Int), vs = [.ref B.b, .ref a] ∧ IsBk B ∧ B.I H ∧ GT H a es ∧ Img es ∧ (full es).Nodup ∧ ∀ H', Wg B H H' → Q (.bl true) H'
set_option maxHeartbeats 4000000 in
theorem ok_law_careful_holds (T : Top K mg) {f : Addr} {fd : FuncData} (D : Def K mg "_law_careful_holds" s_law_careful_holds ["box", "image"] f fd) : FnOk P w K mg base CX0 13 f fd ["box", "image"] (sp_law_careful_holds K) := by
  obtain ⟨f_law_careful, fd_law_careful, D_law_careful⟩ := T.d__law_careful
  have G_law_careful : FnOk P w K mg base CX0 4 f_law_careful fd_law_careful ["box", "image", "many", "way"] (sp_law_careful K) := ok_law_careful T D_law_careful
  obtain ⟨f_law_ends_hold, fd_law_ends_hold, D_law_ends_hold⟩ := T.d__law_ends_hold
  have G_law_ends_hold : FnOk P w K mg base CX0 12 f_law_ends_hold fd_law_ends_hold ["box", "image", "lines"] (sp_law_ends_hold K) := ok_law_ends_hold T D_law_ends_hold
  obtain ⟨f_law_take, fd_law_take, D_law_take⟩ := T.d__law_take
  have G_law_take : FnOk P w K mg base CX0 1 f_law_take fd_law_take ["box", "limit"] (sp_law_take K) := ok_law_take T D_law_take
  refine D.F.ok sc_law_careful_holds (fun vs H Q E h => ?_) (fun cdv A outer s H vs Q E hr h => ?_)
  · obtain ⟨B, a, es, rfl, _⟩ := h
    rfl
  · obtain ⟨B, a, es, rfl, hB, i0, ga, I, nd, q⟩ := h
    refine ⟨_, (pss_cons (ps_set (i := 2) sc_law_careful_holds.nd rfl (.inl rfl) (pe_op op_add pe_int (pe_call G_law_take (hr.mono (by decide)) (by rfl) D_law_take.g D_law_take.F.kp D_law_take.b .nil pass0 (pa_cons (pv 0) (pa_cons pe_int pa_nil)))))
    (C8.pss_cut (ps_if (pt_cmpR op_eq (pe_call G_law_take (hr.mono (by decide)) (by rfl) D_law_take.g D_law_take.F.kp D_law_take.b .nil pass0 (pa_cons (pv 0) (pa_cons pe_int pa_nil))) pe_int (nomark _)) (pss_one (ps_set (i := 2) sc_law_careful_holds.nd rfl (.inl rfl) (pe_call G_law_take (hr.mono (by decide)) (by rfl) D_law_take.g D_law_take.F.kp D_law_take.b .nil pass0 (pa_cons (pv 0) (pa_cons pe_int pa_nil))))) pss_nil)
    (pss_cons (ps_set (i := 3) sc_law_careful_holds.nd rfl (.inl rfl) (pe_call G_law_careful (hr.mono (by decide)) (by rfl) D_law_careful.g D_law_careful.F.kp D_law_careful.b .nil pass0 (pa_cons (pv 0) (pa_cons (pv 1) (pa_cons (pv 2) (pa_cons (pe_call G_law_take (hr.mono (by decide)) (by rfl) D_law_take.g D_law_take.F.kp D_law_take.b .nil pass0 (pa_cons (pv 0) (pa_cons pe_int pa_nil))) pa_nil))))))
    (C8.pss_cut (ps_if (PW.pt (pw_and (pt_cmpR (op_neD hr.units) (pv 3) (pe_lst pa_nil) (nomark _)) (pw_and1 (pt_cmpR op_eq (pe_call G_law_take (hr.mono (by decide)) (by rfl) D_law_take.g D_law_take.F.kp D_law_take.b .nil pass0 (pa_cons (pv 0) (pa_cons pe_int pa_nil))) pe_int (nomark _))))) (pss_cons (ps_set (i := 4) sc_law_careful_holds.nd rfl (.inl rfl) (pe_call G_law_take (hr.mono (by decide)) (by rfl) D_law_take.g D_law_take.F.kp D_law_take.b .nil pass0 (pa_cons (pv 0) (pa_cons (pe_op op_add (pe_callB (r := rLenQ K) call_lenQ (by rfl) T.b_len PySem.boot_len (pa_cons (pv 3) pa_nil)) pe_int) pa_nil))))
    (pss_one (ps_expr (pe_bm PySem.F.plainAttrs_list PySem.F.slot_list_insert PySem.F.type_list_insert mt_insQ (pv 3) (pa_cons (pv 4) (pa_cons (pe_ix (r := rIxL K) ix_list (pv 3) (pe_call G_law_take (hr.mono (by decide)) (by rfl) D_law_take.g D_law_take.F.kp D_law_take.b .nil pass0 (pa_cons (pv 0) (pa_cons (pe_callB (r := rLenQ K) call_lenQ (by rfl) T.b_len PySem.boot_len (pa_cons (pv 3) pa_nil)) pa_nil))) (fun _ _ => rfl)) pa_nil)))))) pss_nil)
    (pss_one (ps_ret (pe_call G_law_ends_hold hr (by rfl) D_law_ends_hold.g D_law_ends_hold.F.kp D_law_ends_hold.b .nil pass0 (pa_cons (pv 0) (pa_cons (pv 1) (pa_cons (pv 3) pa_nil)))))))))), ?_⟩
    walk_at "rx"
    refine ⟨B, 9, rfl, hB, i0, by decide, by decide, fun H1 m w1 hm => ?_⟩
    walk_at "rx"
    refine ⟨fun σ' H' => ∃ many : Nat, σ' = [some (.ref B.b), some (.ref a), some (.int (many : Int)), none, none] ∧ Wg B H H' ∧ many ≤ 20, ?_, ?_⟩
    · walk_at "rx"
      refine ⟨B, 8, rfl, hB, w1.i1, by decide, by decide, fun H2 c w2 hc => ?_⟩
      walk_at "rx"
      by_cases c7 : c = 7
      · rw [decide_eq_true (show V.int (c : Int) = V.int 7 by rw [c7]; rfl)]
        walk_at "rx"
        refine ⟨B, 21, rfl, hB, w2.i1, by decide, by decide, fun H3 m3 w3 hm3 => ?_⟩
        walk_at "rx"
        exact ⟨m3, rfl, (w1.trans w2).trans w3, by omega⟩
      · rw [decide_eq_false (show ¬ V.int (c : Int) = V.int 7 from fun w => c7 (by have := V.int.inj w; omega))]
        walk_at "rx"
        exact ⟨1 + m, by rw [show ((1 + m : Nat) : Int) = 1 + (m : Int) by omega]; rfl, w1.trans w2, by omega⟩
    rintro σ' H2 ⟨many, rfl, w2, m20⟩
    walk_at "rx"
    refine ⟨B, 6, rfl, hB, w2.i1, by decide, by decide, fun H3 way w3 hway => ?_⟩
    have w03 := w2.trans w3
    walk_at "rx"
    refine ⟨B, a, es, many, way, rfl, hB, w3.i1, ga.wg w03, I, by omega, by omega, fun H4 l L w4 nl hL l60 ca => ?_⟩
    have w04 := w03.trans w4
    walk_at "rx"
    refine ⟨fun σ' H' => ∃ (L : List Ln) (y4 : Option V), σ' = [some (.ref B.b), some (.ref a), some (.int (many : Int)), some (.ref l), y4] ∧ Wg B H H' ∧ LsAt H' l L ∧ L.length ≤ 100 ∧ ∀ r ∈ L, CaL es.length r, ?_, ?_⟩
    · walk_at "rx"
      refine rd_newQ (by simp) fun H5 e5 S5 ne5 he5 => ?_
      have hL5 := hL.same S5
      have w5 := w04.same S5
      refine rd_neLns0 hL5 (fun r hr => ⟨(ca r hr).1.1.w, (ca r hr).2⟩) he5 ?_
      have keep : ∀ {H6}, Wg B H5 H6 → ∃ (L2 : List Ln) (y4 : Option V), [some (V.ref B.b), some (V.ref a), some (V.int (many : Int)), some (V.ref l), none] = [some (.ref B.b), some (.ref a), some (.int (many : Int)), some (.ref l), y4] ∧ Wg B H H6 ∧ RH.LsAt H6 l L2 ∧ L2.length ≤ 100 ∧ ∀ r ∈ L2, CaL es.length r := fun w => ⟨L, none, rfl, w5.trans w, hL5.wg hB w, by omega, fun r hr => (ca r hr).1⟩
      by_cases e0 : L = []
      · rw [decide_eq_true e0]
        walk_at "rx"
        exact keep (Wg.refl w5.i1)
      rw [decide_eq_false e0]
      walk_at "rx"
      refine ⟨B, 2, rfl, hB, w5.i1, by decide, by decide, fun H6 d w6 hd => ?_⟩
      walk_at "rx"
      refine ite2 (fun z => ?_) (fun z => ?_)
      · have pos : 0 < L.length := List.length_pos_iff.mpr e0
        obtain ⟨as, hl6, t6⟩ := hL5.wg hB w6
        have la : as.length = L.length := by rw [t6.1]; exact List.length_map ..
        walk_at "rx"
        refine ⟨B, ((L.length + 1 : Nat) : Int), by rw [List.length_map, la]; rfl, hB, w6.i1, by omega, by omega, fun H7 k w7 hk => ?_⟩
        have hl7 := w7.lst (bk_ne hB w6.i1 hl6) hl6
        walk_at "rx"
        refine ⟨B, ((L.length : Nat) : Int), by rw [List.length_map, la], hB, w7.i1, by omega, by omega, fun H8 j w8 hj => ?_⟩
        have w78 := w7.trans w8
        have hl8 := w78.lst (bk_ne hB w6.i1 hl6) hl6
        have t8 := TupsAt.wg w78 t6
        have ej : as[j]? = some as[j] := List.getElem?_eq_getElem (by omega)
        have er : L[j]? = some L[j] := List.getElem?_eq_getElem (by omega)
        have ax : atI (as.map V.ref) (j : Int) = some (.ref as[j]) := atI_nat (by rw [List.getElem?_map, ej]; rfl)
        have w8a := (w5.trans w6).trans w78
        have nl0 : H l = none := w03.free nl
        walk_at "rx"
        refine rd_insQ hl8 (by rw [List.length_map]; omega) (by omega) ?_
        walk_at "rx"
        refine ⟨L.take k ++ [L[j]] ++ L.drop k, _, rfl, w8a.mut nl0, LsAt.ins hl8 t8 ej er, by simp; omega, fun r hr => ?_⟩
        have mr : r ∈ L := by
          rcases List.mem_append.mp hr with h1 | h1
          · rcases List.mem_append.mp h1 with h2 | h2
            · exact List.mem_of_mem_take h2
            · rw [List.mem_singleton.mp h2]; exact List.getElem_mem _
          · exact List.mem_of_mem_drop h1
        exact (ca r mr).1
      · walk_at "rx"
        exact keep w6
    rintro σ' H5 ⟨L, y4, rfl, w5, hL, l100, ca⟩
    walk_at "rx"
    refine ⟨B, a, l, es, L, rfl, hB, w5.i1, ga.wg w5, I, nd, hL, l100, ca, fun H6 w6 => ?_⟩
    exact q _ (w5.trans w6)
def sp_law_any_moves (_K : PySem.W.Frag) : Sp := fun vs H Q _ => ∃ (B : Box) (a : Addr) (es : List Int) (many : Nat), vs = [.ref B.b, .ref a, .int (many : Int)] ∧ IsBk B ∧ B.I H ∧ GT H a es ∧ Img es ∧ many ≤ 60 ∧ ∀ H' l L, Wg B H H' → LsAt H' l L → L.length ≤ 60 → (∀ r ∈ L, MvL es.length r) → Q (.ref l) H'
set_option maxHeartbeats 4000000 in
theorem ok_law_any_moves (T : Top K mg) {f : Addr} {fd : FuncData} (D : Def K mg "_law_any_moves" s_law_any_moves ["box", "image", "many"] f fd) : FnOk P w K mg base CX0 4 f fd ["box", "image", "many"] (sp_law_any_moves K) := by
  obtain ⟨f_law_take, fd_law_take, D_law_take⟩ := T.d__law_take
  have G_law_take : FnOk P w K mg base CX0 1 f_law_take fd_law_take ["box", "limit"] (sp_law_take K) := ok_law_take T D_law_take
  obtain ⟨f_law_after_line, fd_law_after_line, D_law_after_line⟩ := T.d__law_after_line
  have G_law_after_line : FnOk P w K mg base CX0 3 f_law_after_line fd_law_after_line ["line", "now"] (sp_law_after_line K) := ok_law_after_line T D_law_after_line
  obtain ⟨f_law_view, fd_law_view, D_law_view⟩ := T.d__law_view
  have G_law_view : FnOk P w K mg base CX0 2 f_law_view fd_law_view ["image"] (sp_law_view K) := ok_law_view T D_law_view
  obtain ⟨f_law_mark, fd_law_mark, D_law_mark⟩ := T.d__law_mark
  have G_law_mark : FnOk P w K mg base CX0 2 f_law_mark fd_law_mark ["box", "entry", "way"] (sp_law_mark K) := ok_law_mark T D_law_mark
  refine D.F.ok sc_law_any_moves (fun vs H Q E h => ?_) (fun cdv A outer s H vs Q E hr h => ?_)
  · obtain ⟨B, a, es, many, rfl, _⟩ := h
    rfl
  · obtain ⟨B, a, es, many, rfl, hB, i0, ha, I, m60, q⟩ := h
    have hr1 : -100000 ≤ (many : Int) ∧ (many : Int) ≤ 100000 := by omega
    have n1 := I.1
    have n12 := I.2.1
    refine ⟨_, (pss_cons (ps_set (i := 3) sc_law_any_moves.nd rfl (.inl rfl) (pe_lst pa_nil))
    (pss_cons (ps_set (i := 4) sc_law_any_moves.nd rfl (.inr rfl) (pv 1))
    (pss_cons (ps_set (i := 5) sc_law_any_moves.nd rfl (.inl rfl) (pe_callB (r := rLenQ K) call_lenQ (by rfl) T.b_len PySem.boot_len (pa_cons (pv 1) pa_nil)))
    (pss_cons (ps_for PassesOwn.never rfl (pi_range1 (by rfl) T.b_range (pa_cons (pv 2) pa_nil)) (pg_name (i := 6) sc_law_any_moves.nd rfl (.inl rfl)) (pss_cons (ps_set (i := 7) sc_law_any_moves.nd rfl (.inl rfl) (pe_call G_law_take (hr.mono (by decide)) (by rfl) D_law_take.g D_law_take.F.kp D_law_take.b .nil pass0 (pa_cons (pv 0) (pa_cons (pv 5) pa_nil))))
    (pss_cons (ps_setLc (i := 8) (own := [("at", 12)]) (g := gName 12) (tt := _) rfl sc_law_any_moves.nd rfl rfl (sw_true rfl rfl rfl (by decide +kernel)) (pi_range1 (by rfl) T.b_range (pa_cons (pv 5) pa_nil))
      (blkOk_by (own := [("at", 12)]) (N := ["box", "image", "many", "lines", "now", "blocks", "turn", "target", "empty", "source", "way", "guard", "at"]) (sc := defScope s_law_any_moves) (by decide +kernel)) (fun _ _ _ _ _ => (pg_name (i := 12) sc_law_any_moves.nd rfl (.inl rfl))) (fun _ _ _ _ _ => pts_one (pt_cmpR op_eq (pe_ix (r := rIxT K) ix_tup (pv 4) (pv 12) (fun _ _ => rfl)) (pe_un un_neg pe_int) (nomark _)))
      (fun _ _ _ _ _ => (pv 12)))
    (C8.pss_cut (ps_if (PW.pt (pw_and (pt_cmpR (op_neD hr.units) (pv 8) (pe_lst pa_nil) (nomark _)) (pw_and1 (pt_cmpR op_gt (pe_call G_law_take (hr.mono (by decide)) (by rfl) D_law_take.g D_law_take.F.kp D_law_take.b .nil pass0 (pa_cons (pv 0) (pa_cons pe_int pa_nil))) pe_int (nomark _))))) (pss_one (ps_set (i := 7) sc_law_any_moves.nd rfl (.inl rfl) (pe_ix (r := rIxL K) ix_list (pv 8) (pe_call G_law_take (hr.mono (by decide)) (by rfl) D_law_take.g D_law_take.F.kp D_law_take.b .nil pass0 (pa_cons (pv 0) (pa_cons (pe_callB (r := rLenQ K) call_lenQ (by rfl) T.b_len PySem.boot_len (pa_cons (pv 8) pa_nil)) pa_nil))) (fun _ _ => rfl)))) pss_nil)
    (pss_one (ps_if (pt_cmpR op_gt (pv 5) pe_int (nomark _)) (pss_cons (ps_set (i := 9) sc_law_any_moves.nd rfl (.inl rfl) (pe_op op_modN (pe_callTy call_intQ (by rfl) T.b_int (by decide +kernel) (pa_cons (pe_op op_add (pe_op op_add (pv 7) pe_int) (pe_call G_law_take (hr.mono (by decide)) (by rfl) D_law_take.g D_law_take.F.kp D_law_take.b .nil pass0 (pa_cons (pv 0) (pa_cons (pe_op op_sub (pv 5) pe_int) pa_nil)))) pa_nil)) (pv 5)))
    (pss_cons (ps_set (i := 10) sc_law_any_moves.nd rfl (.inl rfl) (pe_call G_law_take (hr.mono (by decide)) (by rfl) D_law_take.g D_law_take.F.kp D_law_take.b .nil pass0 (pa_cons (pv 0) (pa_cons pe_int pa_nil))))
    (pss_cons (ps_set (i := 11) sc_law_any_moves.nd rfl (.inl rfl) pe_str)
    (C8.pss_cut (ps_if (pt_cmpR op_eq (pv 10) pe_int (nomark _)) (pss_one (ps_set (i := 11) sc_law_any_moves.nd rfl (.inl rfl) (pe_call G_law_view (hr.mono (by decide)) (by rfl) D_law_view.g D_law_view.F.kp D_law_view.b .nil pass0 (pa_cons (pv 4) pa_nil)))) pss_nil)
    (C8.pss_cut (ps_if (pt_cmpR op_eq (pv 10) pe_int (nomark _)) (pss_one (ps_set (i := 11) sc_law_any_moves.nd rfl (.inl rfl) (pe_join pe_str (pe_lc (own := [("at", 12)]) (g := gName 12) (tt := tYes) rfl sc_law_any_moves.nd (pi_range1 (by rfl) T.b_range (pa_cons (pv 5) pa_nil))
      (blkOk_by (own := [("at", 12)]) (N := ["box", "image", "many", "lines", "now", "blocks", "turn", "target", "empty", "source", "way", "guard", "at"]) (sc := defScope s_law_any_moves) (by decide +kernel)) (fun _ _ _ _ _ => (pg_name (i := 12) sc_law_any_moves.nd rfl (.inl rfl))) (fun _ _ _ _ _ => pts_nil)
      (fun _ _ _ _ _ => (pe_call G_law_mark (hr.mono (by decide)) (by rfl) D_law_mark.g D_law_mark.F.kp D_law_mark.b .nil pass0 (pa_cons (pv 0) (pa_cons (pe_ix (r := rIxT K) ix_tup (pv 4) (pv 12) (fun _ _ => rfl)) (pa_cons pe_int pa_nil))))))))) pss_nil)
    (pss_cons (ps_expr (pe_bm PySem.F.plainAttrs_list PySem.F.slot_list_append PySem.F.type_list_append mt_append (pv 3) (pa_cons (pe_tup (pa_cons pe_str (pa_cons (pv 7) (pa_cons (pv 9) (pa_cons (pv 11) pa_nil))))) pa_nil)))
    (pss_one (ps_set (i := 4) sc_law_any_moves.nd rfl (.inr rfl) (pe_call G_law_after_line hr (by rfl) D_law_after_line.g D_law_after_line.F.kp D_law_after_line.b .nil pass0 (pa_cons (pe_ix (r := rIxL K) ix_list (pv 3) (pe_un un_neg pe_int) (fun _ _ => rfl)) (pa_cons (pv 4) pa_nil))))))))))) pss_nil))))))
    (pss_one (ps_ret (pv 3))))))), ?_⟩
    walk_at "rx"
    refine rd_newQ (by simp) fun H3 L S3 nL hL => ?_
    have ha3 := ha.same S3
    have w3 := (Wg.refl i0).same S3
    have mL : L ∉ B.m := B.nem i0 nL
    walk_at "rx"
    rw [show ((many : Int)).toNat = many by omega]
    refine fr_rng0 (fun i σ H' => ∃ (x : Addr) (g : List Int) (as : List Addr) (rs : List Ln) (y6 y7 y8 y9 y10 y11 y12 : Option V), σ = [some (.ref B.b), some (.ref a), some (.int (many : Int)), some (.ref L), some (.ref x), some (.int ((es.length : Nat) : Int)), y6, y7, y8, y9, y10, y11, y12] ∧ Wg B H H' ∧ GT H' x g ∧ Img g ∧ g.length = es.length ∧ H' L = some (.lst (as.map V.ref)) ∧ TupsAt H' as (rows rs) ∧ rs.length ≤ i ∧ ∀ r ∈ rs, MvL es.length r) ⟨a, es, [], [], _, _, _, _, _, _, _, rfl, w3, ha3, I, rfl, hL, TupsAt.nil, Nat.zero_le _, fun r hr => nomatch hr⟩ ?_ ?_
    · rintro i σ Ha hi ⟨x, g, as, rs, y6, y7, y8, y9, y10, y11, y12, rfl, wa, gx, Ig, lg, hLa, tp, ri, ok⟩
      have tx : TG Ha x g := .inr gx
      have g12 := Ig.2.1
      have hr2 : -100000 ≤ ((es.length : Nat) : Int) ∧ ((es.length : Nat) : Int) ≤ 100000 := by omega
      walk_at "rx"
      refine ⟨B, (es.length : Nat), rfl, hB, wa.i1, by omega, by omega, fun Hb t0 wb ht0 => ?_⟩
      have gxb := gx.wg wb
      have txb : TG Hb x g := .inr gxb
      have hLb := wb.lst mL hLa
      have tpb := tp.wg wb
      walk_at "rx"
      rw [show (((es.length : Nat) : Int)).toNat = g.length by omega]
      refine lc_acc walk_rng (fun i acc => acc = nvs (empP g i)) rfl (fun i acc hi e => by have := empP_len g i; rw [e, nvs_len]; omega) (fun _ _ => trivial) ?_ ?_
      · rintro i x Hx Hy acc Qc R2 hi Sx e ⟨rfl, rfl⟩ qc rc
        have hbx := txb.same Sx
        have ai : atI (g.map V.int) (i : Int) = some (.int (g.getD i 0)) := atI_ints (by omega) (by omega)
        have nx : empP g (i + 1) = empP g i ++ if (decide (V.int (g.getD i 0) = V.int (-1))) = true then [i] else [] := fr_next (p := fun k => decide (V.int (g.getD k 0) = V.int (-1))) i
        walk_at "rx"
        refine ⟨rfl, ?_⟩
        walk_at "rx"
        refine ite2 (fun z => ?_) (fun z => ?_)
        · walk_at "rx"
          refine qc _ _ (Same.refl _) ?_
          rw [nx, if_pos z, nvs_app, e]
          rfl
        · refine rc _ (Same.refl _) ?_
          rw [nx, if_neg z, List.append_nil]
          exact e
      intro Hc E acc Sc nE hE e
      subst e
      have gxc := gxb.same Sc
      have wc := (wa.trans wb).same Sc
      have mE : E ∉ B.m := B.nem (wa.trans wb).i1 nE
      have hLc := Sc _ _ hLb
      have tpc := tpb.same Sc
      have e2 := empP_len g g.length
      walk_at "rx"
      refine ⟨fun σ' H' => ∃ t : Nat, σ' = [some (.ref B.b), some (.ref a), some (.int (many : Int)), some (.ref L), some (.ref x), some (.int ((es.length : Nat) : Int)), some (.int (i : Int)), some (.int (t : Int)), some (.ref E), y9, y10, y11, y12] ∧ t < es.length ∧ Wg B H H' ∧ GT H' x g ∧ H' L = some (.lst (as.map V.ref)) ∧ TupsAt H' as (rows rs), ?_, ?_⟩
      · walk_at "rx"
        refine rd_newQ (by simp) fun Hd d Sd nd hd => ?_
        have hEd := Sd _ _ hE
        have wd := wc.same Sd
        refine rd_neN (fs := niz (empP g g.length)) hEd hd ?_
        by_cases e0 : (!(niz (empP g g.length)).isEmpty) = true
        · rw [e0]
          walk_at "rx"
          refine ⟨B, 4, rfl, hB, wd.i1, by decide, by decide, fun He c4 we hc4 => ?_⟩
          walk_at "rx"
          refine ite2 (fun z => ?_) (fun z => ?_)
          · have e1 : 0 < (empP g g.length).length := by
              rw [← niz_len]
              refine List.length_pos_iff.mpr fun k => ?_
              rw [k] at e0; cases e0
            have hEe := we.lst mE hEd
            walk_at "rx"
            refine ⟨B, ((nvs (empP g g.length)).length : Nat), rfl, hB, we.i1, by rw [nvs_len]; omega, by rw [nvs_len]; omega, fun Hf k wf hk => ?_⟩
            rw [nvs_len] at hk
            have ek : (empP g g.length)[k]? = some (empP g g.length)[k] := List.getElem?_eq_getElem (by omega)
            obtain ⟨l1, g1⟩ := mem_empP.mp (List.mem_of_getElem? ek)
            generalize (empP g g.length)[k] = t at ek l1 g1
            have ak := nvs_atI ek
            have hEf := wf.lst mE hEe
            have wef := we.trans wf
            walk_at "rx"
            exact ⟨t, rfl, by omega, wd.trans wef, (gxc.same Sd).wg wef, wef.lst mL (Sd _ _ hLc), (tpc.same Sd).wg wef⟩
          · walk_at "rx"
            exact ⟨t0, rfl, by omega, wd.trans we, (gxc.same Sd).wg we, we.lst mL (Sd _ _ hLc), (tpc.same Sd).wg we⟩
        · rw [Bool.eq_false_iff.mpr e0]
          walk_at "rx"
          exact ⟨t0, rfl, by omega, wd, gxc.same Sd, Sd _ _ hLc, tpc.same Sd⟩
      rintro σ' Hd ⟨t, rfl, lt, wd, gxd, hLd, tpd⟩
      walk_at "rx"
      by_cases n2 : ((es.length : Nat) : Int) > 1
      · rw [decide_eq_true n2]
        walk_at "rx"
        refine ⟨B, ((es.length : Nat) : Int) - 1, rfl, hB, wd.i1, by omega, by omega, fun He d we hd => ?_⟩
        obtain ⟨s, es1, ls, ne⟩ := other_blk (t := t) (d := d) (n := es.length) lt (by omega)
        walk_at "rx"
        refine rd_I (show ((es.length : Nat) : Int) ≠ 0 by omega) ?_
        rw [es1]
        walk_at "rx"
        refine ⟨B, 3, rfl, hB, we.i1, by decide, by decide, fun Hf way wf hway => ?_⟩
        have wdf := (wd.trans we).trans wf
        have gxf := gxd.wg (we.trans wf)
        have hLf := (we.trans wf).lst mL hLd
        have tpf := tpd.wg (we.trans wf)
        have txf : TG Hf x g := .inr gxf
        walk_at "rx"
        refine ⟨fun σ' H' => ∃ gs : List Nat, σ' = [some (.ref B.b), some (.ref a), some (.int (many : Int)), some (.ref L), some (.ref x), some (.int ((es.length : Nat) : Int)), some (.int (i : Int)), some (.int (t : Int)), some (.ref E), some (.int (s : Int)), some (.int (way : Int)), some (.str (txt gs)), y12] ∧ (gs = [] ∨ gs.length = es.length) ∧ Wg B H H' ∧ GT H' x g ∧ H' L = some (.lst (as.map V.ref)) ∧ TupsAt H' as (rows rs), ?_, ?_⟩
        · walk_at "rx"
          refine ite2 (fun z => ?_) (fun z => ?_)
          · walk_at "rx"
            refine ⟨x, g, rfl, .inl txf, Ig.2.2, g12, fun Hg Sg => ?_⟩
            walk_at "rx"
            exact ⟨codes g, rfl, .inr (by rw [codes_len]; omega), wdf.same Sg, gxf.same Sg, Sg _ _ hLf, tpf.same Sg⟩
          · walk_at "rx"
            exact ⟨[], rfl, .inl rfl, wdf, gxf, hLf, tpf⟩
        rintro σ' Hg ⟨gs1, rfl, gl1, wg, gxg, hLg, tpg⟩
        walk_at "rx"
        refine ⟨fun σ' H' => ∃ gs : List Nat, σ' = [some (.ref B.b), some (.ref a), some (.int (many : Int)), some (.ref L), some (.ref x), some (.int ((es.length : Nat) : Int)), some (.int (i : Int)), some (.int (t : Int)), some (.ref E), some (.int (s : Int)), some (.int (way : Int)), some (.str (txt gs)), y12] ∧ (gs = [] ∨ gs.length = es.length) ∧ Wg B H H' ∧ GT H' x g ∧ H' L = some (.lst (as.map V.ref)) ∧ TupsAt H' as (rows rs), ?_, ?_⟩
        · walk_at "rx"
          refine ite2 (fun z => ?_) (fun z => ?_)
          · walk_at "rx"
            rw [show (((es.length : Nat) : Int)).toNat = es.length by omega]
            refine lc_wg walk_rng wg.i1 (fun i acc _ => ∃ cs : List Nat, acc = cs.map (fun c => V.str (one c)) ∧ cs.length = i ∧ i ≤ 12 ∧ ∀ c ∈ cs, c < 128) (fun _ _ => ⟨[], rfl, rfl, by decide, fun c hc => nomatch hc⟩) (fun _ _ _ _ _ p => p) (fun i acc H' p => by obtain ⟨cs, rfl, e, e2, _⟩ := p; rw [List.length_map]; omega) (fun _ _ => trivial) ?_ ?_
            · rintro i x Hx Hy acc Qc R hi wx ⟨cs, rfl, e, e2, e3⟩ ⟨eH, rfl⟩ qc rc
              subst eH
              have gx5 := gxg.wg wx
              have ai : atI (g.map V.int) (i : Int) = some (.int (g.getD i 0)) := atI_ints (by omega) (by omega)
              have ri := Ig.2.2 _ (mem_at (l := g) (i := i) (by omega))
              walk_at "rx"
              refine ⟨rfl, ?_⟩
              walk_at "rx"
              refine ⟨B, g.getD i 0, 3, rfl, hB, wx.i1, ri.1, ri.2, by decide, fun H7 c w7 c128 => ?_⟩
              exact qc _ _ w7 ⟨cs ++ [c], by rw [List.map_append]; rfl, by rw [List.length_append, e]; rfl, by omega, fun y hy => (List.mem_append.mp hy).elim (e3 y) fun k => by rw [List.mem_singleton.mp k]; exact c128⟩
            intro Hh D acc wh nD hD pp
            obtain ⟨cs, rfl, e, _, e3⟩ := pp
            walk_at "rx"
            refine ⟨_, D, cs.map one, rfl, rfl, .inl (SqL.of (by rw [List.map_map]; exact hD)), ?_, ?_⟩
            · rw [ones_sum, List.length_map, e]
              show es.length + es.length * 0 ≤ _
              omega
            · rw [join_sg]
              walk_at "rx"
              exact ⟨cs, rfl, .inr e, wg.trans wh, gxg.wg wh, wh.lst mL hLg, tpg.wg wh⟩
          · walk_at "rx"
            exact ⟨gs1, rfl, gl1, wg, gxg, hLg, tpg⟩
        rintro σ' Hh ⟨gs, rfl, gl, wh, gxh, hLh, tph⟩
        walk_at "rx"
        refine rd_newQ (by simp) fun Hi p Si np hp => ?_
        have hLi := Si _ _ hLh
        have gxi := gxh.same Si
        have tpi := tph.same Si
        have wi := wh.same Si
        have las : as.length = rs.length := by rw [tpi.1]; exact List.length_map ..
        have lF : (as.map V.ref).length < 1000 := by rw [List.length_map]; omega
        have pL : p ≠ L := fun e => by rw [e, hLi] at hp; cases hp
        walk_at "rx"
        have hpk : upd Hi L (.lst (as.map V.ref ++ [.ref p])) p = some (.tup [.str sMove, .int (t : Int), .int (s : Int), .str (txt gs)]) := (upd_ne pL).trans hp
        have ml : MvL es.length ⟨sMove, (t : Int), (s : Int), gs⟩ := .mk' lt ls ne gl
        have mg : MvL g.length ⟨sMove, (t : Int), (s : Int), gs⟩ := by rw [lg]; exact ml
        refine rd_ixM upd_same (atI_end (by rw [List.getLast?_append]; rfl)) ?_
        walk_at "rx"
        refine ⟨p, x, ⟨sMove, (t : Int), (s : Int), gs⟩, g, rfl, hpk, gxi.mutL hLi, Ig.2.2, g12, mg, fun Hj z Sj gz => ?_⟩
        walk_at "rx"
        refine ⟨z, _, as ++ [p], rs ++ [⟨sMove, (t : Int), (s : Int), gs⟩], _, _, _, _, _, _, _, rfl, (wi.mut nL).same Sj, gz, ⟨by rw [stp_len]; exact Ig.1, by rw [stp_len]; exact g12, stp_rg Ig.2.2 mg⟩, by rw [stp_len]; exact lg, Sj _ _ (by rw [upd_same, List.map_append]; rfl), ?_, by rw [List.length_append]; simp; omega, fun r hr => ?_⟩
        · rw [rows_snoc]
          exact TupsAt.same Sj ((TupsAt.mut hLi tpi).app hpk)
        · rcases List.mem_append.mp hr with k3 | k3
          · exact ok r k3
          · rw [List.mem_singleton.mp k3]
            exact ml
      · rw [decide_eq_false n2]
        walk_at "rx"
        exact ⟨x, g, as, rs, _, _, _, _, _, _, _, rfl, wd, gxd, Ig, lg, hLd, tpd, by omega, ok⟩
    · rintro σ Ha ⟨x, g, as, rs, y6, y7, y8, y9, y10, y11, y12, rfl, wa, gx, Ig, lg, hLa, tp, ri, ok⟩
      walk_at "rx"
      exact q _ L rs wa ⟨as, hLa, tp⟩ (by omega) ok
def sp_law_any_holds (_K : PySem.W.Frag) : Sp := fun vs H Q _ => ∃ (B : Box) (a : Addr) (es : List Int), vs = [.ref B.b, .ref a] ∧ IsBk B ∧ B.I H ∧ GT H a es ∧ Img es ∧ (full es).Nodup ∧ ∀ H', Wg B H H' → Q (.bl true) H'
set_option maxHeartbeats 4000000 in
theorem ok_law_any_holds (T : Top K mg) {f : Addr} {fd : FuncData} (D : Def K mg "_law_any_holds" s_law_any_holds ["box", "image"] f fd) : FnOk P w K mg base CX0 12 f fd ["box", "image"] (sp_law_any_holds K) := by
  obtain ⟨f_law_any_moves, fd_law_any_moves, D_law_any_moves⟩ := T.d__law_any_moves
  have G_law_any_moves : FnOk P w K mg base CX0 4 f_law_any_moves fd_law_any_moves ["box", "image", "many"] (sp_law_any_moves K) := ok_law_any_moves T D_law_any_moves
  obtain ⟨f_law_end, fd_law_end, D_law_end⟩ := T.d__law_end
  have G_law_end : FnOk P w K mg base CX0 4 f_law_end fd_law_end ["lines", "now"] (sp_law_end K) := ok_law_end T D_law_end
  obtain ⟨f_law_bound_holds, fd_law_bound_holds, D_law_bound_holds⟩ := T.d__law_bound_holds
  have G_law_bound_holds : FnOk P w K mg base CX0 11 f_law_bound_holds fd_law_bound_holds ["before", "after", "fired"] (sp_law_bound_holds K) := ok_law_bound_holds T D_law_bound_holds
  obtain ⟨f_law_take, fd_law_take, D_law_take⟩ := T.d__law_take
  have G_law_take : FnOk P w K mg base CX0 1 f_law_take fd_law_take ["box", "limit"] (sp_law_take K) := ok_law_take T D_law_take
  obtain ⟨f_law_fired, fd_law_fired, D_law_fired⟩ := T.d__law_fired
  have G_law_fired : FnOk P w K mg base CX0 4 f_law_fired fd_law_fired ["lines", "now"] (sp_law_fired K) := ok_law_fired T D_law_fired
  obtain ⟨f_law_reason, fd_law_reason, D_law_reason⟩ := T.d__law_reason
  have G_law_reason : FnOk P w K mg base CX0 3 f_law_reason fd_law_reason ["before", "after"] (sp_law_reason K) := ok_law_reason T D_law_reason
  refine D.F.ok sc_law_any_holds (fun vs H Q E h => ?_) (fun cdv A outer s H vs Q E hr h => ?_)
  · obtain ⟨B, a, es, rfl, _⟩ := h
    rfl
  · obtain ⟨B, a, es, rfl, hB, i0, ga, I, nd, q⟩ := h
    have e12 := I.2.1
    refine ⟨_, (pss_cons (ps_set (i := 2) sc_law_any_holds.nd rfl (.inl rfl) (pe_call G_law_any_moves (hr.mono (by decide)) (by rfl) D_law_any_moves.g D_law_any_moves.F.kp D_law_any_moves.b .nil pass0 (pa_cons (pv 0) (pa_cons (pv 1) (pa_cons (pe_call G_law_take (hr.mono (by decide)) (by rfl) D_law_take.g D_law_take.F.kp D_law_take.b .nil pass0 (pa_cons (pv 0) (pa_cons pe_int pa_nil))) pa_nil)))))
    (pss_cons (ps_set (i := 3) sc_law_any_holds.nd rfl (.inl rfl) (pe_call G_law_end (hr.mono (by decide)) (by rfl) D_law_end.g D_law_end.F.kp D_law_end.b .nil pass0 (pa_cons (pv 2) (pa_cons (pv 1) pa_nil))))
    (pss_cons (ps_if (PW.pt (pw_or (pt_cmpR op_ne (pe_tcnt hr.units (pv 3) (pe_un un_neg pe_int)) (pe_tcnt hr.units (pv 1) (pe_un un_neg pe_int)) (nomark _)) (pw_or1 (pt_cmpR op_ne (pe_ix (r := rIxL K) ix_list (pe_call G_law_reason (hr.mono (by decide)) (by rfl) D_law_reason.g D_law_reason.F.kp D_law_reason.b .nil pass0 (pa_cons (pv 1) (pa_cons (pv 3) pa_nil))) pe_int (fun _ _ => rfl)) pe_int (nomark _))))) (pss_one (ps_ret pe_bl)) pss_nil)
    (pss_one (ps_ret (pe_call G_law_bound_holds hr (by rfl) D_law_bound_holds.g D_law_bound_holds.F.kp D_law_bound_holds.b .nil pass0 (pa_cons (pv 1) (pa_cons (pv 3) (pa_cons (pe_call G_law_fired (hr.mono (by decide)) (by rfl) D_law_fired.g D_law_fired.F.kp D_law_fired.b .nil pass0 (pa_cons (pv 2) (pa_cons (pv 1) pa_nil))) pa_nil))))))))), ?_⟩
    walk_at "rx"
    refine ⟨B, 9, rfl, hB, i0, by decide, by decide, fun H1 m w1 hm => ?_⟩
    walk_at "rx"
    refine ⟨B, a, es, m, rfl, hB, w1.i1, ga.wg w1, I, by omega, fun H2 l L w2 hL l60 ml => ?_⟩
    have w02 := w1.trans w2
    have ga2 := ga.wg w02
    have lf := run_len L es
    have J : Img (run L es) := ⟨by rw [lf]; exact I.1, by rw [lf]; exact e12, run_rg L es I.2.2 ml⟩
    walk_at "rx"
    refine ⟨l, a, L, es, rfl, hL, ga2, I.2.2, e12, by omega, ml, fun H3 y S3 gy => ?_⟩
    have ga3 := ga2.same S3
    have w3 := w02.same S3
    walk_at "rx"
    refine ⟨_, rfl, _, _, rfl, gy, ?_⟩
    walk_at "rx"
    refine ⟨_, rfl, gy, ?_⟩
    walk_at "rx"
    refine ⟨_, rfl, _, _, rfl, ga3, ?_⟩
    walk_at "rx"
    refine ⟨_, rfl, ga3, ?_⟩
    walk_at "rx"
    by_cases ec : (run L es).count (-1) = es.count (-1)
    · rw [decide_eq_true (show V.int (((run L es).count (-1) : Nat) : Int) = V.int ((es.count (-1) : Nat) : Int) by rw [ec])]
      have cl := cln_cnt L es ml ec
      have R := ren_run nd ml cl
      have r3 : RP H3 a y es (run L es) := ⟨ga3, gy, I, J, R⟩
      walk_at "rx"
      refine ⟨a, y, es, run L es, rfl, r3, fun H4 d k p S4 hd due => ?_⟩
      walk_at "rx"
      by_cases k0 : k = 0
      · rw [decide_eq_true (show V.int (k : Int) = V.int 0 by rw [k0]; rfl)]
        have v0 : vdt es (run L es) = 0 := by
          rcases due with ⟨_, v⟩ | ⟨e, _⟩ | ⟨e, _⟩
          · exact v
          · rw [k0] at e; cases e
          · rw [k0] at e; cases e
        walk_at "rx"
        refine ⟨l, a, L, es, rfl, (hL.same S3).same S4, ga3.same S4, I.2.2, e12, by omega, ml, fun H5 S5 => ?_⟩
        walk_at "rx"
        refine ⟨a, y, es, run L es, cnt L es, rfl, (r3.same S4).same S5, v0, bound L nd ml cl, fun H6 S6 => ?_⟩
        exact q _ (((w3.same S4).same S5).same S6)
      · rw [decide_eq_false (show ¬ V.int (k : Int) = V.int 0 from fun w => k0 (by have := V.int.inj w; omega))]
        walk_at "rx"
        exact q _ (w3.same S4)
    · rw [decide_eq_false (show ¬ V.int (((run L es).count (-1) : Nat) : Int) = V.int ((es.count (-1) : Nat) : Int) from fun w => ec (by have := V.int.inj w; omega))]
      walk_at "rx"
      exact q _ w3
def sp_law_bad_asked (_K : PySem.W.Frag) : Sp := fun vs H Q _ => ∃ (v1 v2 v3 : V) (s : Str) (k : Int), vs = [v1, v2, v3] ∧ BadC H v1 v2 s k ∧ ∀ H' D, Same H H' → H' D = some (.lst [.str s, .int k]) → Q (.ref D) H'
set_option maxHeartbeats 4000000 in
theorem ok_law_bad_asked (T : Top K mg) {f : Addr} {fd : FuncData} (D : Def K mg "_law_bad_asked" s_law_bad_asked ["before", "after", "reason"] f fd) : FnOk P w K mg base CX0 9 f fd ["before", "after", "reason"] (sp_law_bad_asked K) := by
  obtain ⟨fE_InvalidImage, fdE_InvalidImage, ET_InvalidImage, FE_InvalidImage, bE_InvalidImage⟩ := T.e_InvalidImage
  have GI_InvalidImage := okInit_InvalidImage (P := P) (w := w) (base := base) ET_InvalidImage FE_InvalidImage
  have ET_NotRenaming := T.e_NotRenaming
  obtain ⟨fjudge_obstacle, fdjudge_obstacle, Djudge_obstacle⟩ := T.d_judge_obstacle
  have Gjudge_obstacle : FnOk P w K mg base (L2.CX P w) 8 fjudge_obstacle fdjudge_obstacle ["before", "after", "reason"] (spjudge_obstacle K) := okjudge_obstacle T Djudge_obstacle
  refine D.F.ok sc_law_bad_asked (fun vs H Q E h => ?_) (fun cdv A outer s H vs Q E hr h => ?_)
  · obtain ⟨v1, v2, v3, s, k, rfl, _⟩ := h
    rfl
  · obtain ⟨v1, v2, v3, s, k, rfl, bad, q⟩ := h
    refine ⟨_, (pss_one (ps_tryM [(.ref (atTop K "InvalidImage"), 3, _), (.ref (atTop K "NotRenaming"), 3, _)] (_) rfl rfl sc_law_bad_asked.nd (fun W pn xe tk => (pss_one (ps_ret (pe_lst (pa_cons pe_str (pa_cons (pe_callTy call_intB (by rfl) T.b_int (by decide +kernel) (pa_cons (pe_callS Gjudge_obstacle hr (by rfl) Djudge_obstacle.g Djudge_obstacle.F.kp Djudge_obstacle.b (fun σ => passAt tk σ) (pa_cons (pv 0) (pa_cons (pv 1) (pa_cons (pv 2) pa_nil)))) pa_nil)) pa_nil)))))) (.cons ⟨rfl, by decide, .inl ET_InvalidImage.gC⟩ rfl rfl (fun a oe cls d pn hz hf => (pss_one (ps_ret (pe_lst (pa_cons pe_str (pa_cons (pe_xf ET_InvalidImage.xf ET_InvalidImage.noN hz hf (pv 3)) pa_nil)))))) (.cons ⟨rfl, by decide, .inl ET_NotRenaming.gC⟩ rfl rfl (fun a oe cls d pn hz hf => (pss_cons (ps_if (PW.pt (pw_or (pt_val (pe_callB (call_isX0 ET_NotRenaming.ec hz hf) (by rfl) T.b_isinstance (by decide +kernel) (pa_cons (pv 3) (pa_cons (Rv.pe_k (by rfl) T.c_InvalidImage) pa_nil)))) (pw_or1 (pt_val (pe_callB (call_isX0 ET_NotRenaming.ec hz hf) (by rfl) T.b_isinstance (by decide +kernel) (pa_cons (pv 3) (pa_cons (Rv.pe_k (by rfl) T.c_NoPlan) pa_nil))))))) (pss_one (ps_ret (pe_lst (pa_cons pe_str (pa_cons pe_int pa_nil))))) pss_nil)
    (pss_one (ps_ret (pe_lst (pa_cons pe_str (pa_cons pe_int pa_nil))))))) .nil)))), ?_⟩
    walk_at "rx"
    refine ⟨v1, v2, v3, rfl, ?_⟩
    have hE : ∀ (E : XK) Qg, (s = sImage → ∀ H' d, Same H H' → H' d = some (.xd [("block", .int k)]) → E (.ref (atTop K "InvalidImage")) (some d) H') → (s = sRen → k = 0 → ∀ H', Same H H' → E (.ref (atTop K "NotRenaming")) none H') → PairS K H v1 v2 E Qg := fun E Qg e1 e2 => by
      rcases bad with ⟨es, b⟩ | ⟨es, ek, fs, gs, i1, i2, n⟩
      · exact .inr (.inl ⟨_, k, b, e1 es⟩)
      · exact .inr (.inr ⟨fs, gs, i1, i2, n, e2 es ek⟩)
    have q1 : s = sImage → ∀ H' D, Same H H' → H' D = some (.lst [.str (Str.ofString "image"), .int k]) → Q (.ref D) H' := fun es H' D S h => q H' D S (by rw [h, es]; rfl)
    have q2 : s = sRen → k = 0 → ∀ H' D, Same H H' → H' D = some (.lst [.str (Str.ofString "renaming"), .int 0]) → Q (.ref D) H' := fun es ek H' D S h => q H' D S (by rw [h, es, ek]; rfl)
    refine hE _ _ (fun es H1 dd S1 hd => ?_) (fun es ek H1 S1 => ?_)
    · refine ⟨true, T.x_InvalidImage_InvalidImage, iteT fun a na => ?_⟩
      walk_at "rx"
      refine ⟨rfl, rfl, dd, _, .int k, rfl, hd, by simp [List.lookup], ?_⟩
      walk_at "rx"
      refine rd_newQ (by simp) fun H2 p S2 np hp => ?_
      exact q1 es H2 p (S1.trans S2) hp
    · refine ⟨false, T.x_NotRenaming_InvalidImage, iteF ⟨true, T.x_NotRenaming_NotRenaming, iteT fun a na => ?_⟩⟩
      walk_at "rx"
      refine ⟨.ref (atTop K "InvalidImage"), .ref (atTop K "InvalidImage"), false, rfl, fun u h => h, T.k_NotRenaming_InvalidImage, rfl, rfl, ?_⟩
      walk_at "rx"
      refine ⟨.ref (atTop K "NoPlan"), .ref (atTop K "NoPlan"), false, rfl, fun u h => h, T.k_NotRenaming_NoPlan, rfl, rfl, ?_⟩
      walk_at "rx"
      refine rd_newQ (by simp) fun H2 p S2 np hp => ?_
      exact q2 es ek H2 p (S1.trans S2) hp
def splaw (K : PySem.W.Frag) : Sp := fun vs H Q _ => ∃ (a : Addr) (ns : List Int), vs = [.ref a] ∧ SqL K H a (ns.map V.int) ∧ ns.length ≤ 63 ∧ ∀ H', Q (.bl true) H'
set_option maxHeartbeats 4000000 in
theorem oklaw (T : Top K mg) {f : Addr} {fd : FuncData} (D : Def K mg "law" slaw ["script"] f fd) : FnOk P w K mg base CX0 14 f fd ["script"] (splaw K) := by
  obtain ⟨f_law_before, fd_law_before, D_law_before⟩ := T.d__law_before
  have G_law_before : FnOk P w K mg base CX0 3 f_law_before fd_law_before ["box"] (sp_law_before K) := ok_law_before T D_law_before
  obtain ⟨f_law_box, fd_law_box, D_law_box⟩ := T.d__law_box
  have G_law_box : FnOk P w K mg base CX0 1 f_law_box fd_law_box ["script", "at"] (sp_law_box K) := ok_law_box T D_law_box
  obtain ⟨f_law_after, fd_law_after, D_law_after⟩ := T.d__law_after
  have G_law_after : FnOk P w K mg base CX0 3 f_law_after fd_law_after ["box", "before"] (sp_law_after K) := ok_law_after T D_law_after
  obtain ⟨f_law_bad, fd_law_bad, D_law_bad⟩ := T.d__law_bad
  have G_law_bad : FnOk P w K mg base CX0 4 f_law_bad fd_law_bad ["box", "before", "after"] (sp_law_bad K) := ok_law_bad T D_law_bad
  obtain ⟨f_law_careful_holds, fd_law_careful_holds, D_law_careful_holds⟩ := T.d__law_careful_holds
  have G_law_careful_holds : FnOk P w K mg base CX0 13 f_law_careful_holds fd_law_careful_holds ["box", "image"] (sp_law_careful_holds K) := ok_law_careful_holds T D_law_careful_holds
  obtain ⟨f_law_any_holds, fd_law_any_holds, D_law_any_holds⟩ := T.d__law_any_holds
  have G_law_any_holds : FnOk P w K mg base CX0 12 f_law_any_holds fd_law_any_holds ["box", "image"] (sp_law_any_holds K) := ok_law_any_holds T D_law_any_holds
  obtain ⟨f_law_judge_holds, fd_law_judge_holds, D_law_judge_holds⟩ := T.d__law_judge_holds
  have G_law_judge_holds : FnOk P w K mg base CX0 9 f_law_judge_holds fd_law_judge_holds ["box", "before", "after", "safe"] (sp_law_judge_holds K) := ok_law_judge_holds T D_law_judge_holds
  obtain ⟨f_law_take, fd_law_take, D_law_take⟩ := T.d__law_take
  have G_law_take : FnOk P w K mg base CX0 1 f_law_take fd_law_take ["box", "limit"] (sp_law_take K) := ok_law_take T D_law_take
  obtain ⟨f_law_bad_asked, fd_law_bad_asked, D_law_bad_asked⟩ := T.d__law_bad_asked
  have G_law_bad_asked : FnOk P w K mg base CX0 9 f_law_bad_asked fd_law_bad_asked ["before", "after", "reason"] (sp_law_bad_asked K) := ok_law_bad_asked T D_law_bad_asked
  refine D.F.ok sclaw (fun vs H Q E h => ?_) (fun cdv A outer s H vs Q E hr h => ?_)
  · obtain ⟨a, ns, rfl, _⟩ := h
    rfl
  · obtain ⟨a, ns, rfl, hS, hl, q⟩ := h
    have keepR : ∀ {H1 H2 : Hp} {b : Addr}, H1 b = none → (∀ x o, x ≠ b → H1 x = some o → H2 x = some o) → SqL K H1 a (ns.map V.int) → SqL K H2 a (ns.map V.int) := fun {H1 H2 b} nb k h => by
      rcases h with (h | ⟨o, h⟩) | h
      · exact .inl (.inl (k _ _ (fun z => by rw [z, nb] at h; cases h) h))
      · exact .inl (.inr ⟨o, k _ _ (fun z => by rw [z, nb] at h; cases h) h⟩)
      · exact .inr h
    have keepS : ∀ {H1 H2 : Hp}, Same H1 H2 → SqL K H1 a (ns.map V.int) → SqL K H2 a (ns.map V.int) := fun S h => by
      rcases h with (h | ⟨o, h⟩) | h
      · exact .inl (.inl (S _ _ h))
      · exact .inl (.inr ⟨o, S _ _ h⟩)
      · exact .inr h
    have keepW : ∀ {H1 H2 H3 : Hp} {b : Addr}, H1 b = none → Same H1 H2 → Wg (bkL b) H2 H3 → SqL K H1 a (ns.map V.int) → SqL K H3 a (ns.map V.int) := fun nb S w h => keepR nb (fun x o ne e => w.keep x o (fun z => ne (List.mem_singleton.mp z)) (S _ _ e)) h
    refine ⟨_, (pss_cons (ps_for PassesOwn.never rfl (pi_range1 (by rfl) T.b_range (pa_cons (pe_callB (call_minQ rfl) (by rfl) T.b_min (by decide +kernel) (pa_cons pe_int (pa_cons (pe_callB (call_max2 rfl) (by rfl) T.b_max (by decide +kernel) (pa_cons pe_int (pa_cons (pe_op op_fdivN (pe_op op_add (pe_callB (r := rLenQ K) call_lenQ (by rfl) T.b_len PySem.boot_len (pa_cons (pv 0) pa_nil)) pe_int) pe_int) pa_nil))) pa_nil))) pa_nil)) (pg_name (i := 1) sclaw.nd rfl (.inl rfl)) (pss_cons (ps_set (i := 2) sclaw.nd rfl (.inl rfl) (pe_call G_law_before (hr.mono (by decide)) (by rfl) D_law_before.g D_law_before.F.kp D_law_before.b .nil pass0 (pa_cons (pe_call G_law_box (hr.mono (by decide)) (by rfl) D_law_box.g D_law_box.F.kp D_law_box.b .nil pass0 (pa_cons (pv 0) (pa_cons (pe_op op_mul pe_int (pv 1)) pa_nil))) pa_nil)))
    (pss_cons (ps_if (pt_not (pt_val (pe_call G_law_careful_holds hr (by rfl) D_law_careful_holds.g D_law_careful_holds.F.kp D_law_careful_holds.b .nil pass0 (pa_cons (pe_call G_law_box (hr.mono (by decide)) (by rfl) D_law_box.g D_law_box.F.kp D_law_box.b .nil pass0 (pa_cons (pv 0) (pa_cons (pe_op op_add (pe_op op_mul pe_int (pv 1)) pe_int) pa_nil))) (pa_cons (pv 2) pa_nil))))) (pss_one (ps_ret pe_bl)) pss_nil)
    (pss_cons (ps_set (i := 3) sclaw.nd rfl (.inl rfl) (pe_call G_law_box (hr.mono (by decide)) (by rfl) D_law_box.g D_law_box.F.kp D_law_box.b .nil pass0 (pa_cons (pv 0) (pa_cons (pe_op op_add (pe_op op_mul pe_int (pv 1)) pe_int) pa_nil))))
    (pss_cons (ps_if (pt_not (pt_val (pe_call G_law_any_holds (hr.mono (by decide)) (by rfl) D_law_any_holds.g D_law_any_holds.F.kp D_law_any_holds.b .nil pass0 (pa_cons (pv 3) (pa_cons (pv 2) pa_nil))))) (pss_one (ps_ret pe_bl)) pss_nil)
    (pss_cons (ps_set (i := 4) sclaw.nd rfl (.inl rfl) (pe_call G_law_after (hr.mono (by decide)) (by rfl) D_law_after.g D_law_after.F.kp D_law_after.b .nil pass0 (pa_cons (pv 3) (pa_cons (pv 2) pa_nil))))
    (pss_cons (ps_if (pt_not (pt_val (pe_call G_law_judge_holds (hr.mono (by decide)) (by rfl) D_law_judge_holds.g D_law_judge_holds.F.kp D_law_judge_holds.b .nil pass0 (pa_cons (pv 3) (pa_cons (pv 2) (pa_cons (pv 4) (pa_cons pe_bl pa_nil))))))) (pss_one (ps_ret pe_bl)) pss_nil)
    (pss_cons (ps_set (i := 5) sclaw.nd rfl (.inl rfl) (pe_call G_law_bad (hr.mono (by decide)) (by rfl) D_law_bad.g D_law_bad.F.kp D_law_bad.b .nil pass0 (pa_cons (pv 3) (pa_cons (pv 2) (pa_cons (pv 4) pa_nil)))))
    (pss_cons (ps_set (i := 6) sclaw.nd rfl (.inl rfl) (pe_ix (r := rIxL K) ix_list (pe_lst (pa_cons (pe_tup (pa_cons pe_str pa_nil)) (pa_cons (pe_tup (pa_cons pe_str pa_nil)) (pa_cons (pe_tup (pa_cons pe_str (pa_cons (pe_tup (pa_cons (pe_tup (pa_cons pe_int (pa_cons pe_int pa_nil))) pa_nil)) pa_nil))) pa_nil)))) (pe_call G_law_take (hr.mono (by decide)) (by rfl) D_law_take.g D_law_take.F.kp D_law_take.b .nil pass0 (pa_cons (pv 3) (pa_cons pe_int pa_nil))) (fun _ _ => rfl)))
    (pss_one (ps_if (pt_cmpR (op_neD hr.units) (pe_call G_law_bad_asked (hr.mono (by decide)) (by rfl) D_law_bad_asked.g D_law_bad_asked.F.kp D_law_bad_asked.b .nil pass0 (pa_cons (pe_ix (r := rIxL K) ix_list (pv 5) pe_int (fun _ _ => rfl)) (pa_cons (pe_ix (r := rIxL K) ix_list (pv 5) pe_int (fun _ _ => rfl)) (pa_cons (pv 6) pa_nil)))) (pe_ix (r := rIxL K) ix_list (pv 5) pe_int (fun _ _ => rfl)) (nomark _)) (pss_one (ps_ret pe_bl)) pss_nil)))))))))))
    (pss_one (ps_ret pe_bl))), ?_⟩
    walk_at "rx"
    refine ⟨a, _, rfl, .inl hS, ?_⟩
    walk_at "rx"
    refine ⟨_, _, rfl, ?_⟩
    walk_at "rx"
    rw [List.length_map]
    obtain ⟨m, em, m9⟩ : ∃ m : Nat, (if (if (((ns.length : Nat) : Int) + 2).fdiv 3 > 1 then (((ns.length : Nat) : Int) + 2).fdiv 3 else 1) < 9 then (if (((ns.length : Nat) : Int) + 2).fdiv 3 > 1 then (((ns.length : Nat) : Int) + 2).fdiv 3 else 1) else 9) = (m : Int) ∧ m ≤ 9 := by
      rw [Int.fdiv_eq_ediv_of_nonneg _ (by decide)]
      by_cases k : (((ns.length : Nat) : Int) + 2) / 3 > 1
      · rw [if_pos k]
        by_cases y : (((ns.length : Nat) : Int) + 2) / 3 < 9
        · rw [if_pos y]
          exact ⟨((((ns.length : Nat) : Int) + 2) / 3).toNat, by omega, by omega⟩
        · rw [if_neg y]
          exact ⟨9, rfl, by decide⟩
      · rw [if_neg k]
        exact ⟨1, rfl, by decide⟩
    rw [em]
    have hr1 : -100000 ≤ (m : Int) ∧ (m : Int) ≤ 100000 := by omega
    walk_at "rx"
    rw [show ((m : Int)).toNat = m by omega]
    refine fr_rng0 (fun i σ H' => ∃ (y1 y2 y3 y4 y5 y6 : Option V), σ = [some (.ref a), y1, y2, y3, y4, y5, y6] ∧ SqL K H' a (ns.map V.int)) ⟨none, none, none, none, none, none, rfl, hS⟩ ?_ ?_
    · rintro i σ H1 hi ⟨y1, y2, y3, y4, y5, y6, rfl, h1⟩
      walk_at "rx"
      refine ⟨a, ns, 3 * i, by rw [show ((3 * i : Nat) : Int) = 3 * (i : Int) by omega], h1, hl, by omega, fun H2 b S2 nb i2 => ?_⟩
      have w2 := Wg.refl i2
      walk_at "rx"
      refine ⟨bkL b, rfl, ⟨b, rfl⟩, i2, fun H3 p es w3 gp I nd => ?_⟩
      have h3 := keepW nb S2 w3 h1
      walk_at "rx"
      refine ⟨a, ns, 3 * i + 1, by rw [show ((3 * i + 1 : Nat) : Int) = 3 * (i : Int) + 1 by omega], h3, hl, by omega, fun H4 b4 S4 nb4 i4 => ?_⟩
      walk_at "rx"
      refine ⟨bkL b4, p, es, rfl, ⟨b4, rfl⟩, i4, gp.same S4, I, nd, fun H5 w5 => ?_⟩
      have gp5 := (gp.same S4).wg w5
      have h5 := keepW nb4 S4 w5 h3
      walk_at "rx"
      refine ⟨a, ns, 3 * i + 2, by rw [show ((3 * i + 2 : Nat) : Int) = 3 * (i : Int) + 2 by omega], h5, hl, by omega, fun H6 b6 S6 nb6 i6 => ?_⟩
      have gp6 := gp5.same S6
      walk_at "rx"
      refine ⟨bkL b6, p, es, rfl, ⟨b6, rfl⟩, i6, gp6, I, nd, fun H7 w7 => ?_⟩
      have gp7 := gp6.wg w7
      walk_at "rx"
      refine ⟨bkL b6, p, es, rfl, ⟨b6, rfl⟩, w7.i1, .inr gp7, I, nd, fun H8 q2 fs w8 gq R => ?_⟩
      have w78 := w7.trans w8
      have J : Img fs := ⟨by rw [← R.len]; exact I.1, by rw [← R.len]; exact I.2.1, fun x hx => I.2.2 x (R.pm.mem_iff.mpr hx)⟩
      have r8 : RP H8 p q2 es fs := ⟨gp7.wg w8, gq, I, J, R⟩
      walk_at "rx"
      refine ⟨bkL b6, p, q2, es, fs, false, rfl, ⟨b6, rfl⟩, w8.i1, r8, (fun k => by cases k), fun H9 w9 => ?_⟩
      have w79 := w78.trans w9
      have r9 : RP H9 p q2 es fs := ⟨r8.ga.wg w9, r8.gb.wg w9, I, J, R⟩
      walk_at "rx"
      refine ⟨bkL b6, p, q2, es, fs, rfl, ⟨b6, rfl⟩, w9.i1, r9.ta, r9.tb, I, J, R, fun Ha pb v1 v2 d s k wa hp hd bad => ?_⟩
      have w7a := w79.trans wa
      have okS : PyData.strOk s = true := by
        rcases bad with ⟨rfl, _⟩ | ⟨rfl, _⟩ <;> decide +kernel
      walk_at "rx"
      refine rd_newQ (by simp) fun Hb t1 Sb n1 g1 => ?_
      walk_at "rx"
      refine rd_newQ (by simp) fun Hc t2 Sc n2 g2 => ?_
      walk_at "rx"
      refine rd_newQ (by simp) fun Hd t3 Sd n3 g3 => ?_
      walk_at "rx"
      refine rd_newQ (by simp) fun He t4 Se n4 g4 => ?_
      walk_at "rx"
      refine rd_newQ (by simp) fun Hf t5 Sf n5 g5 => ?_
      walk_at "rx"
      refine rd_newQ (by simp) fun Hg t6 Sg n6 g6 => ?_
      have Sag := ((((Sb.trans Sc).trans Sd).trans Se).trans Sf).trans Sg
      have w7g := w7a.same Sag
      walk_at "rx"
      refine ⟨bkL b6, 3, rfl, ⟨b6, rfl⟩, w7g.i1, by decide, by decide, fun Hh pick wh hpick => ?_⟩
      have g6h := wh.lst (bk_ne (ps := [t1, t2, t5]) ⟨b6, rfl⟩ w7g.i1 g6) g6
      have mp : ∀ {x : Addr} {vs : List V}, Ha x = some (.lst vs) → x ≠ b6 → Hh x = some (.lst vs) := fun {x vs} h ne => wh.lst (fun k => ne (List.mem_singleton.mp k)) (Sag _ _ h)
      have hbx : ∃ A f M c : Int, Ha b6 = some (.lst [.int A, .int f, .int M, .int c]) := w7a.i1
      have hpH := mp hp (fun k => by obtain ⟨A, f, M, c, hb⟩ := hbx; rw [k, hb] at hp; simp at hp)
      have hdH := mp hd (fun k => by obtain ⟨A, f, M, c, hb⟩ := hbx; rw [k, hb] at hd; simp at hd)
      have badH := RH.BadC.box (bad.same Sag) wh
      have h6 := keepS S6 h5
      have hH := keepW nb6 S6 (w7g.trans wh) h5
      have c : pick = 0 ∨ pick = 1 ∨ pick = 2 := by omega
      obtain ⟨t, et⟩ : ∃ t, atI [V.ref t1, V.ref t2, V.ref t5] (pick : Int) = some (.ref t) := by
        rcases c with rfl | rfl | rfl
        · exact ⟨t1, rfl⟩
        · exact ⟨t2, rfl⟩
        · exact ⟨t5, rfl⟩
      walk_at "rx"
      refine ⟨v1, v2, .ref t, s, k, rfl, badH, fun Hi D Si hD => ?_⟩
      have hpI := Si _ _ hpH
      have hdI := Si _ _ hdH
      walk_at "rx"
      have sh : Sh 1 (.list [PyData.str s, PyData.int k]) := Sh.list fun e he => by
        simp only [List.mem_cons, List.not_mem_nil, or_false] at he
        rcases he with rfl | rfl
        · exact Sh.str okS
        · exact Sh.int _
      refine rd_ned (d := .list [PyData.str s, PyData.int k]) (.lst (SqL.of hD) (.cons (.str _) (.cons (.int _) .nil))) (.lst (SqL.of hdI) (.cons (.str _) (.cons (.int _) .nil))) sh (by decide) ?_
      walk_at "rx"
      exact ⟨_, _, _, _, _, _, rfl, keepS Si hH⟩
    · rintro σ H1 ⟨y1, y2, y3, y4, y5, y6, rfl, _⟩
      walk_at "rx"
      exact q _
end
theorem all_mk {l : PySem.W.OpenLaw} {w : World} {K : PySem.W.Frag} {h : Heap} {mg : Str → Option Value} {fa : Addr} (X : K.In h) (G : h.Ns mainGlobals mg) (hfa : mg "law" = some (.ref fa))
    {f0 : Addr} {od0 an0 : Option Addr} {sl0 : Array (Option Value)} {oc0 kV0 dc0 pm0 cd0 ct0 : Value}
    (a0 : PySem.W.nsIn K mainGlobals "check_image" = some (some (.ref f0))) (l0 : K.lookup f0 = some ⟨oc0, od0, .func (PySem.W.fnOf "check_image" "check_image" (defArgs scheck_image) (defBody scheck_image) (defScope scheck_image) .none kV0 dc0 pm0 an0 cd0 ct0), sl0⟩) (c0 : PySem.W.codeIn K cd0 "check_image" = true) (k0 : PySem.W.keepIn K (.ref f0) = true)
    {f1 : Addr} {od1 an1 : Option Addr} {sl1 : Array (Option Value)} {oc1 kV1 dc1 pm1 cd1 ct1 : Value}
    (a1 : PySem.W.nsIn K mainGlobals "look" = some (some (.ref f1))) (l1 : K.lookup f1 = some ⟨oc1, od1, .func (PySem.W.fnOf "look" "look" (defArgs slook) (defBody slook) (defScope slook) .none kV1 dc1 pm1 an1 cd1 ct1), sl1⟩) (c1 : PySem.W.codeIn K cd1 "look" = true) (k1 : PySem.W.keepIn K (.ref f1) = true)
    {f2 : Addr} {od2 an2 : Option Addr} {sl2 : Array (Option Value)} {oc2 kV2 dc2 pm2 cd2 ct2 : Value}
    (a2 : PySem.W.nsIn K mainGlobals "_sign" = some (some (.ref f2))) (l2 : K.lookup f2 = some ⟨oc2, od2, .func (PySem.W.fnOf "_sign" "_sign" (defArgs s_sign) (defBody s_sign) (defScope s_sign) .none kV2 dc2 pm2 an2 cd2 ct2), sl2⟩) (c2 : PySem.W.codeIn K cd2 "_sign" = true) (k2 : PySem.W.keepIn K (.ref f2) = true)
    {f3 : Addr} {od3 an3 : Option Addr} {sl3 : Array (Option Value)} {oc3 kV3 dc3 pm3 cd3 ct3 : Value}
    (a3 : PySem.W.nsIn K mainGlobals "followed" = some (some (.ref f3))) (l3 : K.lookup f3 = some ⟨oc3, od3, .func (PySem.W.fnOf "followed" "followed" (defArgs sfollowed) (defBody sfollowed) (defScope sfollowed) .none kV3 dc3 pm3 an3 cd3 ct3), sl3⟩) (c3 : PySem.W.codeIn K cd3 "followed" = true) (k3 : PySem.W.keepIn K (.ref f3) = true)
    {f4 : Addr} {od4 an4 : Option Addr} {sl4 : Array (Option Value)} {oc4 kV4 dc4 pm4 cd4 ct4 : Value}
    (a4 : PySem.W.nsIn K mainGlobals "all_rings" = some (some (.ref f4))) (l4 : K.lookup f4 = some ⟨oc4, od4, .func (PySem.W.fnOf "all_rings" "all_rings" (defArgs sall_rings) (defBody sall_rings) (defScope sall_rings) .none kV4 dc4 pm4 an4 cd4 ct4), sl4⟩) (c4 : PySem.W.codeIn K cd4 "all_rings" = true) (k4 : PySem.W.keepIn K (.ref f4) = true)
    {f5 : Addr} {od5 an5 : Option Addr} {sl5 : Array (Option Value)} {oc5 kV5 dc5 pm5 cd5 ct5 : Value}
    (a5 : PySem.W.nsIn K mainGlobals "check_renaming" = some (some (.ref f5))) (l5 : K.lookup f5 = some ⟨oc5, od5, .func (PySem.W.fnOf "check_renaming" "check_renaming" (defArgs scheck_renaming) (defBody scheck_renaming) (defScope scheck_renaming) .none kV5 dc5 pm5 an5 cd5 ct5), sl5⟩) (c5 : PySem.W.codeIn K cd5 "check_renaming" = true) (k5 : PySem.W.keepIn K (.ref f5) = true)
    {f6 : Addr} {od6 an6 : Option Addr} {sl6 : Array (Option Value)} {oc6 kV6 dc6 pm6 cd6 ct6 : Value}
    (a6 : PySem.W.nsIn K mainGlobals "rings" = some (some (.ref f6))) (l6 : K.lookup f6 = some ⟨oc6, od6, .func (PySem.W.fnOf "rings" "rings" (defArgs srings) (defBody srings) (defScope srings) .none kV6 dc6 pm6 an6 cd6 ct6), sl6⟩) (c6 : PySem.W.codeIn K cd6 "rings" = true) (k6 : PySem.W.keepIn K (.ref f6) = true)
    {f7 : Addr} {od7 an7 : Option Addr} {sl7 : Array (Option Value)} {oc7 kV7 dc7 pm7 cd7 ct7 : Value}
    (a7 : PySem.W.nsIn K mainGlobals "moving" = some (some (.ref f7))) (l7 : K.lookup f7 = some ⟨oc7, od7, .func (PySem.W.fnOf "moving" "moving" (defArgs smoving) (defBody smoving) (defScope smoving) .none kV7 dc7 pm7 an7 cd7 ct7), sl7⟩) (c7 : PySem.W.codeIn K cd7 "moving" = true) (k7 : PySem.W.keepIn K (.ref f7) = true)
    {f8 : Addr} {od8 an8 : Option Addr} {sl8 : Array (Option Value)} {oc8 kV8 dc8 pm8 cd8 ct8 : Value}
    (a8 : PySem.W.nsIn K mainGlobals "_leads" = some (some (.ref f8))) (l8 : K.lookup f8 = some ⟨oc8, od8, .func (PySem.W.fnOf "_leads" "_leads" (defArgs s_leads) (defBody s_leads) (defScope s_leads) .none kV8 dc8 pm8 an8 cd8 ct8), sl8⟩) (c8 : PySem.W.codeIn K cd8 "_leads" = true) (k8 : PySem.W.keepIn K (.ref f8) = true)
    {f9 : Addr} {od9 an9 : Option Addr} {sl9 : Array (Option Value)} {oc9 kV9 dc9 pm9 cd9 ct9 : Value}
    (a9 : PySem.W.nsIn K mainGlobals "obstacle" = some (some (.ref f9))) (l9 : K.lookup f9 = some ⟨oc9, od9, .func (PySem.W.fnOf "obstacle" "obstacle" (defArgs sobstacle) (defBody sobstacle) (defScope sobstacle) .none kV9 dc9 pm9 an9 cd9 ct9), sl9⟩) (c9 : PySem.W.codeIn K cd9 "obstacle" = true) (k9 : PySem.W.keepIn K (.ref f9) = true)
    {f10 : Addr} {od10 an10 : Option Addr} {sl10 : Array (Option Value)} {oc10 kV10 dc10 pm10 cd10 ct10 : Value}
    (a10 : PySem.W.nsIn K mainGlobals "judge_obstacle" = some (some (.ref f10))) (l10 : K.lookup f10 = some ⟨oc10, od10, .func (PySem.W.fnOf "judge_obstacle" "judge_obstacle" (defArgs sjudge_obstacle) (defBody sjudge_obstacle) (defScope sjudge_obstacle) .none kV10 dc10 pm10 an10 cd10 ct10), sl10⟩) (c10 : PySem.W.codeIn K cd10 "judge_obstacle" = true) (k10 : PySem.W.keepIn K (.ref f10) = true)
    {f11 : Addr} {od11 an11 : Option Addr} {sl11 : Array (Option Value)} {oc11 kV11 dc11 pm11 cd11 ct11 : Value}
    (a11 : PySem.W.nsIn K mainGlobals "fewest_moves" = some (some (.ref f11))) (l11 : K.lookup f11 = some ⟨oc11, od11, .func (PySem.W.fnOf "fewest_moves" "fewest_moves" (defArgs sfewest_moves) (defBody sfewest_moves) (defScope sfewest_moves) .none kV11 dc11 pm11 an11 cd11 ct11), sl11⟩) (c11 : PySem.W.codeIn K cd11 "fewest_moves" = true) (k11 : PySem.W.keepIn K (.ref f11) = true)
    {f12 : Addr} {od12 an12 : Option Addr} {sl12 : Array (Option Value)} {oc12 kV12 dc12 pm12 cd12 ct12 : Value}
    (a12 : PySem.W.nsIn K mainGlobals "_check_free" = some (some (.ref f12))) (l12 : K.lookup f12 = some ⟨oc12, od12, .func (PySem.W.fnOf "_check_free" "_check_free" (defArgs s_check_free) (defBody s_check_free) (defScope s_check_free) .none kV12 dc12 pm12 an12 cd12 ct12), sl12⟩) (c12 : PySem.W.codeIn K cd12 "_check_free" = true) (k12 : PySem.W.keepIn K (.ref f12) = true)
    {f13 : Addr} {od13 an13 : Option Addr} {sl13 : Array (Option Value)} {oc13 kV13 dc13 pm13 cd13 ct13 : Value}
    (a13 : PySem.W.nsIn K mainGlobals "_is_crowded" = some (some (.ref f13))) (l13 : K.lookup f13 = some ⟨oc13, od13, .func (PySem.W.fnOf "_is_crowded" "_is_crowded" (defArgs s_is_crowded) (defBody s_is_crowded) (defScope s_is_crowded) .none kV13 dc13 pm13 an13 cd13 ct13), sl13⟩) (c13 : PySem.W.codeIn K cd13 "_is_crowded" = true) (k13 : PySem.W.keepIn K (.ref f13) = true)
    {f14 : Addr} {od14 an14 : Option Addr} {sl14 : Array (Option Value)} {oc14 kV14 dc14 pm14 cd14 ct14 : Value}
    (a14 : PySem.W.nsIn K mainGlobals "_is_of_one_kind" = some (some (.ref f14))) (l14 : K.lookup f14 = some ⟨oc14, od14, .func (PySem.W.fnOf "_is_of_one_kind" "_is_of_one_kind" (defArgs s_is_of_one_kind) (defBody s_is_of_one_kind) (defScope s_is_of_one_kind) .none kV14 dc14 pm14 an14 cd14 ct14), sl14⟩) (c14 : PySem.W.codeIn K cd14 "_is_of_one_kind" = true) (k14 : PySem.W.keepIn K (.ref f14) = true)
    {f15 : Addr} {od15 an15 : Option Addr} {sl15 : Array (Option Value)} {oc15 kV15 dc15 pm15 cd15 ct15 : Value}
    (a15 : PySem.W.nsIn K mainGlobals "_are_rings" = some (some (.ref f15))) (l15 : K.lookup f15 = some ⟨oc15, od15, .func (PySem.W.fnOf "_are_rings" "_are_rings" (defArgs s_are_rings) (defBody s_are_rings) (defScope s_are_rings) .none kV15 dc15 pm15 an15 cd15 ct15), sl15⟩) (c15 : PySem.W.codeIn K cd15 "_are_rings" = true) (k15 : PySem.W.keepIn K (.ref f15) = true)
    {f16 : Addr} {od16 an16 : Option Addr} {sl16 : Array (Option Value)} {oc16 kV16 dc16 pm16 cd16 ct16 : Value}
    (a16 : PySem.W.nsIn K mainGlobals "_law_box" = some (some (.ref f16))) (l16 : K.lookup f16 = some ⟨oc16, od16, .func (PySem.W.fnOf "_law_box" "_law_box" (defArgs s_law_box) (defBody s_law_box) (defScope s_law_box) .none kV16 dc16 pm16 an16 cd16 ct16), sl16⟩) (c16 : PySem.W.codeIn K cd16 "_law_box" = true) (k16 : PySem.W.keepIn K (.ref f16) = true)
    {f17 : Addr} {od17 an17 : Option Addr} {sl17 : Array (Option Value)} {oc17 kV17 dc17 pm17 cd17 ct17 : Value}
    (a17 : PySem.W.nsIn K mainGlobals "_law_take" = some (some (.ref f17))) (l17 : K.lookup f17 = some ⟨oc17, od17, .func (PySem.W.fnOf "_law_take" "_law_take" (defArgs s_law_take) (defBody s_law_take) (defScope s_law_take) .none kV17 dc17 pm17 an17 cd17 ct17), sl17⟩) (c17 : PySem.W.codeIn K cd17 "_law_take" = true) (k17 : PySem.W.keepIn K (.ref f17) = true)
    {f18 : Addr} {od18 an18 : Option Addr} {sl18 : Array (Option Value)} {oc18 kV18 dc18 pm18 cd18 ct18 : Value}
    (a18 : PySem.W.nsIn K mainGlobals "_law_values" = some (some (.ref f18))) (l18 : K.lookup f18 = some ⟨oc18, od18, .func (PySem.W.fnOf "_law_values" "_law_values" (defArgs s_law_values) (defBody s_law_values) (defScope s_law_values) .none kV18 dc18 pm18 an18 cd18 ct18), sl18⟩) (c18 : PySem.W.codeIn K cd18 "_law_values" = true) (k18 : PySem.W.keepIn K (.ref f18) = true)
    {f19 : Addr} {od19 an19 : Option Addr} {sl19 : Array (Option Value)} {oc19 kV19 dc19 pm19 cd19 ct19 : Value}
    (a19 : PySem.W.nsIn K mainGlobals "_law_laid" = some (some (.ref f19))) (l19 : K.lookup f19 = some ⟨oc19, od19, .func (PySem.W.fnOf "_law_laid" "_law_laid" (defArgs s_law_laid) (defBody s_law_laid) (defScope s_law_laid) .none kV19 dc19 pm19 an19 cd19 ct19), sl19⟩) (c19 : PySem.W.codeIn K cd19 "_law_laid" = true) (k19 : PySem.W.keepIn K (.ref f19) = true)
    {f20 : Addr} {od20 an20 : Option Addr} {sl20 : Array (Option Value)} {oc20 kV20 dc20 pm20 cd20 ct20 : Value}
    (a20 : PySem.W.nsIn K mainGlobals "_law_before" = some (some (.ref f20))) (l20 : K.lookup f20 = some ⟨oc20, od20, .func (PySem.W.fnOf "_law_before" "_law_before" (defArgs s_law_before) (defBody s_law_before) (defScope s_law_before) .none kV20 dc20 pm20 an20 cd20 ct20), sl20⟩) (c20 : PySem.W.codeIn K cd20 "_law_before" = true) (k20 : PySem.W.keepIn K (.ref f20) = true)
    {f21 : Addr} {od21 an21 : Option Addr} {sl21 : Array (Option Value)} {oc21 kV21 dc21 pm21 cd21 ct21 : Value}
    (a21 : PySem.W.nsIn K mainGlobals "_law_sign" = some (some (.ref f21))) (l21 : K.lookup f21 = some ⟨oc21, od21, .func (PySem.W.fnOf "_law_sign" "_law_sign" (defArgs s_law_sign) (defBody s_law_sign) (defScope s_law_sign) .none kV21 dc21 pm21 an21 cd21 ct21), sl21⟩) (c21 : PySem.W.codeIn K cd21 "_law_sign" = true) (k21 : PySem.W.keepIn K (.ref f21) = true)
    {f22 : Addr} {od22 an22 : Option Addr} {sl22 : Array (Option Value)} {oc22 kV22 dc22 pm22 cd22 ct22 : Value}
    (a22 : PySem.W.nsIn K mainGlobals "_law_view" = some (some (.ref f22))) (l22 : K.lookup f22 = some ⟨oc22, od22, .func (PySem.W.fnOf "_law_view" "_law_view" (defArgs s_law_view) (defBody s_law_view) (defScope s_law_view) .none kV22 dc22 pm22 an22 cd22 ct22), sl22⟩) (c22 : PySem.W.codeIn K cd22 "_law_view" = true) (k22 : PySem.W.keepIn K (.ref f22) = true)
    {f23 : Addr} {od23 an23 : Option Addr} {sl23 : Array (Option Value)} {oc23 kV23 dc23 pm23 cd23 ct23 : Value}
    (a23 : PySem.W.nsIn K mainGlobals "_law_partners" = some (some (.ref f23))) (l23 : K.lookup f23 = some ⟨oc23, od23, .func (PySem.W.fnOf "_law_partners" "_law_partners" (defArgs s_law_partners) (defBody s_law_partners) (defScope s_law_partners) .none kV23 dc23 pm23 an23 cd23 ct23), sl23⟩) (c23 : PySem.W.codeIn K cd23 "_law_partners" = true) (k23 : PySem.W.keepIn K (.ref f23) = true)
    {f24 : Addr} {od24 an24 : Option Addr} {sl24 : Array (Option Value)} {oc24 kV24 dc24 pm24 cd24 ct24 : Value}
    (a24 : PySem.W.nsIn K mainGlobals "_law_turned" = some (some (.ref f24))) (l24 : K.lookup f24 = some ⟨oc24, od24, .func (PySem.W.fnOf "_law_turned" "_law_turned" (defArgs s_law_turned) (defBody s_law_turned) (defScope s_law_turned) .none kV24 dc24 pm24 an24 cd24 ct24), sl24⟩) (c24 : PySem.W.codeIn K cd24 "_law_turned" = true) (k24 : PySem.W.keepIn K (.ref f24) = true)
    {f25 : Addr} {od25 an25 : Option Addr} {sl25 : Array (Option Value)} {oc25 kV25 dc25 pm25 cd25 ct25 : Value}
    (a25 : PySem.W.nsIn K mainGlobals "_law_after" = some (some (.ref f25))) (l25 : K.lookup f25 = some ⟨oc25, od25, .func (PySem.W.fnOf "_law_after" "_law_after" (defArgs s_law_after) (defBody s_law_after) (defScope s_law_after) .none kV25 dc25 pm25 an25 cd25 ct25), sl25⟩) (c25 : PySem.W.codeIn K cd25 "_law_after" = true) (k25 : PySem.W.keepIn K (.ref f25) = true)
    {f26 : Addr} {od26 an26 : Option Addr} {sl26 : Array (Option Value)} {oc26 kV26 dc26 pm26 cd26 ct26 : Value}
    (a26 : PySem.W.nsIn K mainGlobals "_law_number" = some (some (.ref f26))) (l26 : K.lookup f26 = some ⟨oc26, od26, .func (PySem.W.fnOf "_law_number" "_law_number" (defArgs s_law_number) (defBody s_law_number) (defScope s_law_number) .none kV26 dc26 pm26 an26 cd26 ct26), sl26⟩) (c26 : PySem.W.codeIn K cd26 "_law_number" = true) (k26 : PySem.W.keepIn K (.ref f26) = true)
    {f27 : Addr} {od27 an27 : Option Addr} {sl27 : Array (Option Value)} {oc27 kV27 dc27 pm27 cd27 ct27 : Value}
    (a27 : PySem.W.nsIn K mainGlobals "_law_fresh" = some (some (.ref f27))) (l27 : K.lookup f27 = some ⟨oc27, od27, .func (PySem.W.fnOf "_law_fresh" "_law_fresh" (defArgs s_law_fresh) (defBody s_law_fresh) (defScope s_law_fresh) .none kV27 dc27 pm27 an27 cd27 ct27), sl27⟩) (c27 : PySem.W.codeIn K cd27 "_law_fresh" = true) (k27 : PySem.W.keepIn K (.ref f27) = true)
    {f28 : Addr} {od28 an28 : Option Addr} {sl28 : Array (Option Value)} {oc28 kV28 dc28 pm28 cd28 ct28 : Value}
    (a28 : PySem.W.nsIn K mainGlobals "_law_with" = some (some (.ref f28))) (l28 : K.lookup f28 = some ⟨oc28, od28, .func (PySem.W.fnOf "_law_with" "_law_with" (defArgs s_law_with) (defBody s_law_with) (defScope s_law_with) .none kV28 dc28 pm28 an28 cd28 ct28), sl28⟩) (c28 : PySem.W.codeIn K cd28 "_law_with" = true) (k28 : PySem.W.keepIn K (.ref f28) = true)
    {f29 : Addr} {od29 an29 : Option Addr} {sl29 : Array (Option Value)} {oc29 kV29 dc29 pm29 cd29 ct29 : Value}
    (a29 : PySem.W.nsIn K mainGlobals "_law_wrong" = some (some (.ref f29))) (l29 : K.lookup f29 = some ⟨oc29, od29, .func (PySem.W.fnOf "_law_wrong" "_law_wrong" (defArgs s_law_wrong) (defBody s_law_wrong) (defScope s_law_wrong) .none kV29 dc29 pm29 an29 cd29 ct29), sl29⟩) (c29 : PySem.W.codeIn K cd29 "_law_wrong" = true) (k29 : PySem.W.keepIn K (.ref f29) = true)
    {f30 : Addr} {od30 an30 : Option Addr} {sl30 : Array (Option Value)} {oc30 kV30 dc30 pm30 cd30 ct30 : Value}
    (a30 : PySem.W.nsIn K mainGlobals "_law_doubled" = some (some (.ref f30))) (l30 : K.lookup f30 = some ⟨oc30, od30, .func (PySem.W.fnOf "_law_doubled" "_law_doubled" (defArgs s_law_doubled) (defBody s_law_doubled) (defScope s_law_doubled) .none kV30 dc30 pm30 an30 cd30 ct30), sl30⟩) (c30 : PySem.W.codeIn K cd30 "_law_doubled" = true) (k30 : PySem.W.keepIn K (.ref f30) = true)
    {f31 : Addr} {od31 an31 : Option Addr} {sl31 : Array (Option Value)} {oc31 kV31 dc31 pm31 cd31 ct31 : Value}
    (a31 : PySem.W.nsIn K mainGlobals "_law_bad_image" = some (some (.ref f31))) (l31 : K.lookup f31 = some ⟨oc31, od31, .func (PySem.W.fnOf "_law_bad_image" "_law_bad_image" (defArgs s_law_bad_image) (defBody s_law_bad_image) (defScope s_law_bad_image) .none kV31 dc31 pm31 an31 cd31 ct31), sl31⟩) (c31 : PySem.W.codeIn K cd31 "_law_bad_image" = true) (k31 : PySem.W.keepIn K (.ref f31) = true)
    {f32 : Addr} {od32 an32 : Option Addr} {sl32 : Array (Option Value)} {oc32 kV32 dc32 pm32 cd32 ct32 : Value}
    (a32 : PySem.W.nsIn K mainGlobals "_law_bad_values" = some (some (.ref f32))) (l32 : K.lookup f32 = some ⟨oc32, od32, .func (PySem.W.fnOf "_law_bad_values" "_law_bad_values" (defArgs s_law_bad_values) (defBody s_law_bad_values) (defScope s_law_bad_values) .none kV32 dc32 pm32 an32 cd32 ct32), sl32⟩) (c32 : PySem.W.codeIn K cd32 "_law_bad_values" = true) (k32 : PySem.W.keepIn K (.ref f32) = true)
    {f33 : Addr} {od33 an33 : Option Addr} {sl33 : Array (Option Value)} {oc33 kV33 dc33 pm33 cd33 ct33 : Value}
    (a33 : PySem.W.nsIn K mainGlobals "_law_bad" = some (some (.ref f33))) (l33 : K.lookup f33 = some ⟨oc33, od33, .func (PySem.W.fnOf "_law_bad" "_law_bad" (defArgs s_law_bad) (defBody s_law_bad) (defScope s_law_bad) .none kV33 dc33 pm33 an33 cd33 ct33), sl33⟩) (c33 : PySem.W.codeIn K cd33 "_law_bad" = true) (k33 : PySem.W.keepIn K (.ref f33) = true)
    {f34 : Addr} {od34 an34 : Option Addr} {sl34 : Array (Option Value)} {oc34 kV34 dc34 pm34 cd34 ct34 : Value}
    (a34 : PySem.W.nsIn K mainGlobals "_law_moved" = some (some (.ref f34))) (l34 : K.lookup f34 = some ⟨oc34, od34, .func (PySem.W.fnOf "_law_moved" "_law_moved" (defArgs s_law_moved) (defBody s_law_moved) (defScope s_law_moved) .none kV34 dc34 pm34 an34 cd34 ct34), sl34⟩) (c34 : PySem.W.codeIn K cd34 "_law_moved" = true) (k34 : PySem.W.keepIn K (.ref f34) = true)
    {f35 : Addr} {od35 an35 : Option Addr} {sl35 : Array (Option Value)} {oc35 kV35 dc35 pm35 cd35 ct35 : Value}
    (a35 : PySem.W.nsIn K mainGlobals "_law_loop" = some (some (.ref f35))) (l35 : K.lookup f35 = some ⟨oc35, od35, .func (PySem.W.fnOf "_law_loop" "_law_loop" (defArgs s_law_loop) (defBody s_law_loop) (defScope s_law_loop) .none kV35 dc35 pm35 an35 cd35 ct35), sl35⟩) (c35 : PySem.W.codeIn K cd35 "_law_loop" = true) (k35 : PySem.W.keepIn K (.ref f35) = true)
    {f36 : Addr} {od36 an36 : Option Addr} {sl36 : Array (Option Value)} {oc36 kV36 dc36 pm36 cd36 ct36 : Value}
    (a36 : PySem.W.nsIn K mainGlobals "_law_loops" = some (some (.ref f36))) (l36 : K.lookup f36 = some ⟨oc36, od36, .func (PySem.W.fnOf "_law_loops" "_law_loops" (defArgs s_law_loops) (defBody s_law_loops) (defScope s_law_loops) .none kV36 dc36 pm36 an36 cd36 ct36), sl36⟩) (c36 : PySem.W.codeIn K cd36 "_law_loops" = true) (k36 : PySem.W.keepIn K (.ref f36) = true)
    {f37 : Addr} {od37 an37 : Option Addr} {sl37 : Array (Option Value)} {oc37 kV37 dc37 pm37 cd37 ct37 : Value}
    (a37 : PySem.W.nsIn K mainGlobals "_law_one_kind" = some (some (.ref f37))) (l37 : K.lookup f37 = some ⟨oc37, od37, .func (PySem.W.fnOf "_law_one_kind" "_law_one_kind" (defArgs s_law_one_kind) (defBody s_law_one_kind) (defScope s_law_one_kind) .none kV37 dc37 pm37 an37 cd37 ct37), sl37⟩) (c37 : PySem.W.codeIn K cd37 "_law_one_kind" = true) (k37 : PySem.W.keepIn K (.ref f37) = true)
    {f38 : Addr} {od38 an38 : Option Addr} {sl38 : Array (Option Value)} {oc38 kV38 dc38 pm38 cd38 ct38 : Value}
    (a38 : PySem.W.nsIn K mainGlobals "_law_reason" = some (some (.ref f38))) (l38 : K.lookup f38 = some ⟨oc38, od38, .func (PySem.W.fnOf "_law_reason" "_law_reason" (defArgs s_law_reason) (defBody s_law_reason) (defScope s_law_reason) .none kV38 dc38 pm38 an38 cd38 ct38), sl38⟩) (c38 : PySem.W.codeIn K cd38 "_law_reason" = true) (k38 : PySem.W.keepIn K (.ref f38) = true)
    {f39 : Addr} {od39 an39 : Option Addr} {sl39 : Array (Option Value)} {oc39 kV39 dc39 pm39 cd39 ct39 : Value}
    (a39 : PySem.W.nsIn K mainGlobals "_law_same_loops" = some (some (.ref f39))) (l39 : K.lookup f39 = some ⟨oc39, od39, .func (PySem.W.fnOf "_law_same_loops" "_law_same_loops" (defArgs s_law_same_loops) (defBody s_law_same_loops) (defScope s_law_same_loops) .none kV39 dc39 pm39 an39 cd39 ct39), sl39⟩) (c39 : PySem.W.codeIn K cd39 "_law_same_loops" = true) (k39 : PySem.W.keepIn K (.ref f39) = true)
    {f40 : Addr} {od40 an40 : Option Addr} {sl40 : Array (Option Value)} {oc40 kV40 dc40 pm40 cd40 ct40 : Value}
    (a40 : PySem.W.nsIn K mainGlobals "_law_same_reason" = some (some (.ref f40))) (l40 : K.lookup f40 = some ⟨oc40, od40, .func (PySem.W.fnOf "_law_same_reason" "_law_same_reason" (defArgs s_law_same_reason) (defBody s_law_same_reason) (defScope s_law_same_reason) .none kV40 dc40 pm40 an40 cd40 ct40), sl40⟩) (c40 : PySem.W.codeIn K cd40 "_law_same_reason" = true) (k40 : PySem.W.keepIn K (.ref f40) = true)
    {f41 : Addr} {od41 an41 : Option Addr} {sl41 : Array (Option Value)} {oc41 kV41 dc41 pm41 cd41 ct41 : Value}
    (a41 : PySem.W.nsIn K mainGlobals "_law_fires" = some (some (.ref f41))) (l41 : K.lookup f41 = some ⟨oc41, od41, .func (PySem.W.fnOf "_law_fires" "_law_fires" (defArgs s_law_fires) (defBody s_law_fires) (defScope s_law_fires) .none kV41 dc41 pm41 an41 cd41 ct41), sl41⟩) (c41 : PySem.W.codeIn K cd41 "_law_fires" = true) (k41 : PySem.W.keepIn K (.ref f41) = true)
    {f42 : Addr} {od42 an42 : Option Addr} {sl42 : Array (Option Value)} {oc42 kV42 dc42 pm42 cd42 ct42 : Value}
    (a42 : PySem.W.nsIn K mainGlobals "_law_after_line" = some (some (.ref f42))) (l42 : K.lookup f42 = some ⟨oc42, od42, .func (PySem.W.fnOf "_law_after_line" "_law_after_line" (defArgs s_law_after_line) (defBody s_law_after_line) (defScope s_law_after_line) .none kV42 dc42 pm42 an42 cd42 ct42), sl42⟩) (c42 : PySem.W.codeIn K cd42 "_law_after_line" = true) (k42 : PySem.W.keepIn K (.ref f42) = true)
    {f43 : Addr} {od43 an43 : Option Addr} {sl43 : Array (Option Value)} {oc43 kV43 dc43 pm43 cd43 ct43 : Value}
    (a43 : PySem.W.nsIn K mainGlobals "_law_end" = some (some (.ref f43))) (l43 : K.lookup f43 = some ⟨oc43, od43, .func (PySem.W.fnOf "_law_end" "_law_end" (defArgs s_law_end) (defBody s_law_end) (defScope s_law_end) .none kV43 dc43 pm43 an43 cd43 ct43), sl43⟩) (c43 : PySem.W.codeIn K cd43 "_law_end" = true) (k43 : PySem.W.keepIn K (.ref f43) = true)
    {f44 : Addr} {od44 an44 : Option Addr} {sl44 : Array (Option Value)} {oc44 kV44 dc44 pm44 cd44 ct44 : Value}
    (a44 : PySem.W.nsIn K mainGlobals "_law_beginnings" = some (some (.ref f44))) (l44 : K.lookup f44 = some ⟨oc44, od44, .func (PySem.W.fnOf "_law_beginnings" "_law_beginnings" (defArgs s_law_beginnings) (defBody s_law_beginnings) (defScope s_law_beginnings) .none kV44 dc44 pm44 an44 cd44 ct44), sl44⟩) (c44 : PySem.W.codeIn K cd44 "_law_beginnings" = true) (k44 : PySem.W.keepIn K (.ref f44) = true)
    {f45 : Addr} {od45 an45 : Option Addr} {sl45 : Array (Option Value)} {oc45 kV45 dc45 pm45 cd45 ct45 : Value}
    (a45 : PySem.W.nsIn K mainGlobals "_law_mark" = some (some (.ref f45))) (l45 : K.lookup f45 = some ⟨oc45, od45, .func (PySem.W.fnOf "_law_mark" "_law_mark" (defArgs s_law_mark) (defBody s_law_mark) (defScope s_law_mark) .none kV45 dc45 pm45 an45 cd45 ct45), sl45⟩) (c45 : PySem.W.codeIn K cd45 "_law_mark" = true) (k45 : PySem.W.keepIn K (.ref f45) = true)
    {f46 : Addr} {od46 an46 : Option Addr} {sl46 : Array (Option Value)} {oc46 kV46 dc46 pm46 cd46 ct46 : Value}
    (a46 : PySem.W.nsIn K mainGlobals "_law_guard" = some (some (.ref f46))) (l46 : K.lookup f46 = some ⟨oc46, od46, .func (PySem.W.fnOf "_law_guard" "_law_guard" (defArgs s_law_guard) (defBody s_law_guard) (defScope s_law_guard) .none kV46 dc46 pm46 an46 cd46 ct46), sl46⟩) (c46 : PySem.W.codeIn K cd46 "_law_guard" = true) (k46 : PySem.W.keepIn K (.ref f46) = true)
    {f47 : Addr} {od47 an47 : Option Addr} {sl47 : Array (Option Value)} {oc47 kV47 dc47 pm47 cd47 ct47 : Value}
    (a47 : PySem.W.nsIn K mainGlobals "_law_careful" = some (some (.ref f47))) (l47 : K.lookup f47 = some ⟨oc47, od47, .func (PySem.W.fnOf "_law_careful" "_law_careful" (defArgs s_law_careful) (defBody s_law_careful) (defScope s_law_careful) .none kV47 dc47 pm47 an47 cd47 ct47), sl47⟩) (c47 : PySem.W.codeIn K cd47 "_law_careful" = true) (k47 : PySem.W.keepIn K (.ref f47) = true)
    {f48 : Addr} {od48 an48 : Option Addr} {sl48 : Array (Option Value)} {oc48 kV48 dc48 pm48 cd48 ct48 : Value}
    (a48 : PySem.W.nsIn K mainGlobals "_law_any_moves" = some (some (.ref f48))) (l48 : K.lookup f48 = some ⟨oc48, od48, .func (PySem.W.fnOf "_law_any_moves" "_law_any_moves" (defArgs s_law_any_moves) (defBody s_law_any_moves) (defScope s_law_any_moves) .none kV48 dc48 pm48 an48 cd48 ct48), sl48⟩) (c48 : PySem.W.codeIn K cd48 "_law_any_moves" = true) (k48 : PySem.W.keepIn K (.ref f48) = true)
    {f49 : Addr} {od49 an49 : Option Addr} {sl49 : Array (Option Value)} {oc49 kV49 dc49 pm49 cd49 ct49 : Value}
    (a49 : PySem.W.nsIn K mainGlobals "_law_fired" = some (some (.ref f49))) (l49 : K.lookup f49 = some ⟨oc49, od49, .func (PySem.W.fnOf "_law_fired" "_law_fired" (defArgs s_law_fired) (defBody s_law_fired) (defScope s_law_fired) .none kV49 dc49 pm49 an49 cd49 ct49), sl49⟩) (c49 : PySem.W.codeIn K cd49 "_law_fired" = true) (k49 : PySem.W.keepIn K (.ref f49) = true)
    {f50 : Addr} {od50 an50 : Option Addr} {sl50 : Array (Option Value)} {oc50 kV50 dc50 pm50 cd50 ct50 : Value}
    (a50 : PySem.W.nsIn K mainGlobals "_law_obstacle" = some (some (.ref f50))) (l50 : K.lookup f50 = some ⟨oc50, od50, .func (PySem.W.fnOf "_law_obstacle" "_law_obstacle" (defArgs s_law_obstacle) (defBody s_law_obstacle) (defScope s_law_obstacle) .none kV50 dc50 pm50 an50 cd50 ct50), sl50⟩) (c50 : PySem.W.codeIn K cd50 "_law_obstacle" = true) (k50 : PySem.W.keepIn K (.ref f50) = true)
    {f51 : Addr} {od51 an51 : Option Addr} {sl51 : Array (Option Value)} {oc51 kV51 dc51 pm51 cd51 ct51 : Value}
    (a51 : PySem.W.nsIn K mainGlobals "_law_judged" = some (some (.ref f51))) (l51 : K.lookup f51 = some ⟨oc51, od51, .func (PySem.W.fnOf "_law_judged" "_law_judged" (defArgs s_law_judged) (defBody s_law_judged) (defScope s_law_judged) .none kV51 dc51 pm51 an51 cd51 ct51), sl51⟩) (c51 : PySem.W.codeIn K cd51 "_law_judged" = true) (k51 : PySem.W.keepIn K (.ref f51) = true)
    {f52 : Addr} {od52 an52 : Option Addr} {sl52 : Array (Option Value)} {oc52 kV52 dc52 pm52 cd52 ct52 : Value}
    (a52 : PySem.W.nsIn K mainGlobals "_law_any_reason" = some (some (.ref f52))) (l52 : K.lookup f52 = some ⟨oc52, od52, .func (PySem.W.fnOf "_law_any_reason" "_law_any_reason" (defArgs s_law_any_reason) (defBody s_law_any_reason) (defScope s_law_any_reason) .none kV52 dc52 pm52 an52 cd52 ct52), sl52⟩) (c52 : PySem.W.codeIn K cd52 "_law_any_reason" = true) (k52 : PySem.W.keepIn K (.ref f52) = true)
    {f53 : Addr} {od53 an53 : Option Addr} {sl53 : Array (Option Value)} {oc53 kV53 dc53 pm53 cd53 ct53 : Value}
    (a53 : PySem.W.nsIn K mainGlobals "_law_bound_holds" = some (some (.ref f53))) (l53 : K.lookup f53 = some ⟨oc53, od53, .func (PySem.W.fnOf "_law_bound_holds" "_law_bound_holds" (defArgs s_law_bound_holds) (defBody s_law_bound_holds) (defScope s_law_bound_holds) .none kV53 dc53 pm53 an53 cd53 ct53), sl53⟩) (c53 : PySem.W.codeIn K cd53 "_law_bound_holds" = true) (k53 : PySem.W.keepIn K (.ref f53) = true)
    {f54 : Addr} {od54 an54 : Option Addr} {sl54 : Array (Option Value)} {oc54 kV54 dc54 pm54 cd54 ct54 : Value}
    (a54 : PySem.W.nsIn K mainGlobals "_law_due" = some (some (.ref f54))) (l54 : K.lookup f54 = some ⟨oc54, od54, .func (PySem.W.fnOf "_law_due" "_law_due" (defArgs s_law_due) (defBody s_law_due) (defScope s_law_due) .none kV54 dc54 pm54 an54 cd54 ct54), sl54⟩) (c54 : PySem.W.codeIn K cd54 "_law_due" = true) (k54 : PySem.W.keepIn K (.ref f54) = true)
    {f55 : Addr} {od55 an55 : Option Addr} {sl55 : Array (Option Value)} {oc55 kV55 dc55 pm55 cd55 ct55 : Value}
    (a55 : PySem.W.nsIn K mainGlobals "_law_judge_holds" = some (some (.ref f55))) (l55 : K.lookup f55 = some ⟨oc55, od55, .func (PySem.W.fnOf "_law_judge_holds" "_law_judge_holds" (defArgs s_law_judge_holds) (defBody s_law_judge_holds) (defScope s_law_judge_holds) .none kV55 dc55 pm55 an55 cd55 ct55), sl55⟩) (c55 : PySem.W.codeIn K cd55 "_law_judge_holds" = true) (k55 : PySem.W.keepIn K (.ref f55) = true)
    {f56 : Addr} {od56 an56 : Option Addr} {sl56 : Array (Option Value)} {oc56 kV56 dc56 pm56 cd56 ct56 : Value}
    (a56 : PySem.W.nsIn K mainGlobals "_law_ends_hold" = some (some (.ref f56))) (l56 : K.lookup f56 = some ⟨oc56, od56, .func (PySem.W.fnOf "_law_ends_hold" "_law_ends_hold" (defArgs s_law_ends_hold) (defBody s_law_ends_hold) (defScope s_law_ends_hold) .none kV56 dc56 pm56 an56 cd56 ct56), sl56⟩) (c56 : PySem.W.codeIn K cd56 "_law_ends_hold" = true) (k56 : PySem.W.keepIn K (.ref f56) = true)
    {f57 : Addr} {od57 an57 : Option Addr} {sl57 : Array (Option Value)} {oc57 kV57 dc57 pm57 cd57 ct57 : Value}
    (a57 : PySem.W.nsIn K mainGlobals "_law_careful_holds" = some (some (.ref f57))) (l57 : K.lookup f57 = some ⟨oc57, od57, .func (PySem.W.fnOf "_law_careful_holds" "_law_careful_holds" (defArgs s_law_careful_holds) (defBody s_law_careful_holds) (defScope s_law_careful_holds) .none kV57 dc57 pm57 an57 cd57 ct57), sl57⟩) (c57 : PySem.W.codeIn K cd57 "_law_careful_holds" = true) (k57 : PySem.W.keepIn K (.ref f57) = true)
    {f58 : Addr} {od58 an58 : Option Addr} {sl58 : Array (Option Value)} {oc58 kV58 dc58 pm58 cd58 ct58 : Value}
    (a58 : PySem.W.nsIn K mainGlobals "_law_any_holds" = some (some (.ref f58))) (l58 : K.lookup f58 = some ⟨oc58, od58, .func (PySem.W.fnOf "_law_any_holds" "_law_any_holds" (defArgs s_law_any_holds) (defBody s_law_any_holds) (defScope s_law_any_holds) .none kV58 dc58 pm58 an58 cd58 ct58), sl58⟩) (c58 : PySem.W.codeIn K cd58 "_law_any_holds" = true) (k58 : PySem.W.keepIn K (.ref f58) = true)
    {f59 : Addr} {od59 an59 : Option Addr} {sl59 : Array (Option Value)} {oc59 kV59 dc59 pm59 cd59 ct59 : Value}
    (a59 : PySem.W.nsIn K mainGlobals "_law_bad_asked" = some (some (.ref f59))) (l59 : K.lookup f59 = some ⟨oc59, od59, .func (PySem.W.fnOf "_law_bad_asked" "_law_bad_asked" (defArgs s_law_bad_asked) (defBody s_law_bad_asked) (defScope s_law_bad_asked) .none kV59 dc59 pm59 an59 cd59 ct59), sl59⟩) (c59 : PySem.W.codeIn K cd59 "_law_bad_asked" = true) (k59 : PySem.W.keepIn K (.ref f59) = true)
    {f60 : Addr} {od60 an60 : Option Addr} {sl60 : Array (Option Value)} {oc60 kV60 dc60 pm60 cd60 ct60 : Value}
    (a60 : PySem.W.nsIn K mainGlobals "law" = some (some (.ref f60))) (l60 : K.lookup f60 = some ⟨oc60, od60, .func (PySem.W.fnOf "law" "law" (defArgs slaw) (defBody slaw) (defScope slaw) .none kV60 dc60 pm60 an60 cd60 ct60), sl60⟩) (c60 : PySem.W.codeIn K cd60 "law" = true) (k60 : PySem.W.keepIn K (.ref f60) = true)
    (z0 : PySem.W.nsIn K mainGlobals "abs" = some none)
    (z1 : PySem.W.nsIn K mainGlobals "all" = some none)
    (z2 : PySem.W.nsIn K mainGlobals "bool" = some none)
    (z3 : PySem.W.nsIn K mainGlobals "enumerate" = some none)
    (z4 : PySem.W.nsIn K mainGlobals "int" = some none)
    (z5 : PySem.W.nsIn K mainGlobals "isinstance" = some none)
    (z6 : PySem.W.nsIn K mainGlobals "len" = some none)
    (z7 : PySem.W.nsIn K mainGlobals "list" = some none)
    (z8 : PySem.W.nsIn K mainGlobals "max" = some none)
    (z9 : PySem.W.nsIn K mainGlobals "min" = some none)
    (z10 : PySem.W.nsIn K mainGlobals "range" = some none)
    (z11 : PySem.W.nsIn K mainGlobals "set" = some none)
    (z12 : PySem.W.nsIn K mainGlobals "sorted" = some none)
    (z13 : PySem.W.nsIn K mainGlobals "str" = some none)
    (z14 : PySem.W.nsIn K mainGlobals "sum" = some none)
    (z15 : PySem.W.nsIn K mainGlobals "tuple" = some none)
    (z16 : PySem.W.nsIn K mainGlobals "zip" = some none)
    {t0 : Tok} (y0 : PySem.W.nsIn K mainGlobals "EMPTY" = some (some (.int (-1) t0)))
    {t1 : Tok} (y1 : PySem.W.nsIn K mainGlobals "_GREATEST" = some (some (.int (999) t1)))
    {t2 : Tok} (y2 : PySem.W.nsIn K mainGlobals "_MOST_BLOCKS" = some (some (.int (12) t2)))
    {C_InvalidImage : Addr}
    (eC_InvalidImage : PySem.W.nsIn K mainGlobals "InvalidImage" = some (some (.ref C_InvalidImage)))
    (eIc_InvalidImage : PySem.W.isClsIn K C_InvalidImage = true)
    (eTy_InvalidImage : PySem.W.typeIn K (.ref C_InvalidImage) = some (.type "type"))
    (eSb_InvalidImage : PySem.W.subIn K (.ref C_InvalidImage) (.type "BaseException") = some true)
    (eSs_InvalidImage : PySem.W.subIn K (.ref C_InvalidImage) (.ref C_InvalidImage) = some true)
    {C_NoPlan : Addr}
    (eC_NoPlan : PySem.W.nsIn K mainGlobals "NoPlan" = some (some (.ref C_NoPlan)))
    (eIc_NoPlan : PySem.W.isClsIn K C_NoPlan = true)
    (eTy_NoPlan : PySem.W.typeIn K (.ref C_NoPlan) = some (.type "type"))
    (eSb_NoPlan : PySem.W.subIn K (.ref C_NoPlan) (.type "BaseException") = some true)
    (eSs_NoPlan : PySem.W.subIn K (.ref C_NoPlan) (.ref C_NoPlan) = some true)
    {C_Undecided : Addr}
    (eC_Undecided : PySem.W.nsIn K mainGlobals "Undecided" = some (some (.ref C_Undecided)))
    (eIc_Undecided : PySem.W.isClsIn K C_Undecided = true)
    (eTy_Undecided : PySem.W.typeIn K (.ref C_Undecided) = some (.type "type"))
    (eSb_Undecided : PySem.W.subIn K (.ref C_Undecided) (.type "BaseException") = some true)
    (eSs_Undecided : PySem.W.subIn K (.ref C_Undecided) (.ref C_Undecided) = some true)
    {C_NotRenaming : Addr}
    (eC_NotRenaming : PySem.W.nsIn K mainGlobals "NotRenaming" = some (some (.ref C_NotRenaming)))
    (eIc_NotRenaming : PySem.W.isClsIn K C_NotRenaming = true)
    (eTy_NotRenaming : PySem.W.typeIn K (.ref C_NotRenaming) = some (.type "type"))
    (eSb_NotRenaming : PySem.W.subIn K (.ref C_NotRenaming) (.type "BaseException") = some true)
    (eSs_NotRenaming : PySem.W.subIn K (.ref C_NotRenaming) (.ref C_NotRenaming) = some true)
    {C_RedoError : Addr}
    (eC_RedoError : PySem.W.nsIn K mainGlobals "RedoError" = some (some (.ref C_RedoError)))
    (eIc_RedoError : PySem.W.isClsIn K C_RedoError = true)
    (eTy_RedoError : PySem.W.typeIn K (.ref C_RedoError) = some (.type "type"))
    (eSb_RedoError : PySem.W.subIn K (.ref C_RedoError) (.type "BaseException") = some true)
    (eSs_RedoError : PySem.W.subIn K (.ref C_RedoError) (.ref C_RedoError) = some true)
    {fI_InvalidImage : Addr} {nm_InvalidImage q_InvalidImage : Str} {NE_InvalidImage : Addr} {bs_InvalidImage : List Value} {sn_InvalidImage : List Str} {sub_InvalidImage : List Value} {ab_InvalidImage : Bool} {col_InvalidImage : Option Bool} {dd_InvalidImage : Option Addr} {m0_InvalidImage m1_InvalidImage m2_InvalidImage m3_InvalidImage m5_InvalidImage : Option Value} {od_InvalidImage an_InvalidImage : Option Addr} {sl_InvalidImage : Array (Option Value)} {oc_InvalidImage kV_InvalidImage dc_InvalidImage pm_InvalidImage cd_InvalidImage ct_InvalidImage : Value}
    (eX_InvalidImage : K.lookup C_InvalidImage = some (excClassObj nm_InvalidImage q_InvalidImage C_InvalidImage NE_InvalidImage bs_InvalidImage [.ref C_RedoError, .type "ValueError", .type "Exception", .type "BaseException", .type "object"] true sn_InvalidImage sub_InvalidImage ab_InvalidImage col_InvalidImage dd_InvalidImage m0_InvalidImage m1_InvalidImage m2_InvalidImage m3_InvalidImage m5_InvalidImage "ValueError.__new__"))
    (eSa_InvalidImage : PySem.W.findIn K (.ref C_InvalidImage) "__setattr__" = some (some (.builtin "object.__setattr__")))
    (eGa_InvalidImage : PySem.W.findIn K (.ref C_InvalidImage) "__getattribute__" = some (some (.builtin "BaseException.__getattribute__")))
    (eGg_InvalidImage : PySem.W.findIn K (.ref C_InvalidImage) "__getattr__" = some none)
    (eNb_InvalidImage : PySem.W.findIn K (.ref C_InvalidImage) "block" = some none)
    (eIn_InvalidImage : PySem.W.findIn K (.ref C_InvalidImage) "__init__" = some (some (.ref fI_InvalidImage)))
    (eTf_InvalidImage : PySem.W.typeIn K (.ref fI_InvalidImage) = some (.type "function"))
    (eLk_InvalidImage : K.lookup fI_InvalidImage = some ⟨oc_InvalidImage, od_InvalidImage, .func (PySem.W.fnOf "__init__" "InvalidImage.__init__" (defArgs sInvalidImageu_initu) (defBody sInvalidImageu_initu) (defScope sInvalidImageu_initu) .none kV_InvalidImage dc_InvalidImage pm_InvalidImage an_InvalidImage cd_InvalidImage ct_InvalidImage), sl_InvalidImage⟩)
    (eCd_InvalidImage : PySem.W.codeIn K cd_InvalidImage "InvalidImage.__init__" = true)
    (eKf_InvalidImage : PySem.W.keepIn K (.ref fI_InvalidImage) = true)
    (eKp_InvalidImage : PySem.W.keepIn K (.ref C_InvalidImage) = true)
    (eHd_InvalidImage : PySem.W.hasDictIn K C_InvalidImage = true)
    (eCc_InvalidImage : PySem.W.findIn K (.ref C_InvalidImage) "__class__" = some (some (.builtin "object.__class__")))
    (eSp_InvalidImage : PySem.W.specialIn K (.builtin "object.__class__") "__get__" = some (some (.builtin "getset_descriptor.__get__")))
    (eTk_InvalidImage : PySem.W.takesIn K (.builtin "object.__class__") = some true)
    (eMo_InvalidImage : PySem.W.mroIn K C_InvalidImage (.type "object") = some true)
    {fI_NoPlan : Addr} {nm_NoPlan q_NoPlan : Str} {NE_NoPlan : Addr} {bs_NoPlan : List Value} {sn_NoPlan : List Str} {sub_NoPlan : List Value} {ab_NoPlan : Bool} {col_NoPlan : Option Bool} {dd_NoPlan : Option Addr} {m0_NoPlan m1_NoPlan m2_NoPlan m3_NoPlan m5_NoPlan : Option Value} {od_NoPlan an_NoPlan : Option Addr} {sl_NoPlan : Array (Option Value)} {oc_NoPlan kV_NoPlan dc_NoPlan pm_NoPlan cd_NoPlan ct_NoPlan : Value}
    (eX_NoPlan : K.lookup C_NoPlan = some (excClassObj nm_NoPlan q_NoPlan C_NoPlan NE_NoPlan bs_NoPlan [.ref C_RedoError, .type "ValueError", .type "Exception", .type "BaseException", .type "object"] true sn_NoPlan sub_NoPlan ab_NoPlan col_NoPlan dd_NoPlan m0_NoPlan m1_NoPlan m2_NoPlan m3_NoPlan m5_NoPlan "ValueError.__new__"))
    (eSa_NoPlan : PySem.W.findIn K (.ref C_NoPlan) "__setattr__" = some (some (.builtin "object.__setattr__")))
    (eGa_NoPlan : PySem.W.findIn K (.ref C_NoPlan) "__getattribute__" = some (some (.builtin "BaseException.__getattribute__")))
    (eGg_NoPlan : PySem.W.findIn K (.ref C_NoPlan) "__getattr__" = some none)
    (eNb_NoPlan : PySem.W.findIn K (.ref C_NoPlan) "reason" = some none)
    (eIn_NoPlan : PySem.W.findIn K (.ref C_NoPlan) "__init__" = some (some (.ref fI_NoPlan)))
    (eTf_NoPlan : PySem.W.typeIn K (.ref fI_NoPlan) = some (.type "function"))
    (eLk_NoPlan : K.lookup fI_NoPlan = some ⟨oc_NoPlan, od_NoPlan, .func (PySem.W.fnOf "__init__" "NoPlan.__init__" (defArgs sNoPlanu_initu) (defBody sNoPlanu_initu) (defScope sNoPlanu_initu) .none kV_NoPlan dc_NoPlan pm_NoPlan an_NoPlan cd_NoPlan ct_NoPlan), sl_NoPlan⟩)
    (eCd_NoPlan : PySem.W.codeIn K cd_NoPlan "NoPlan.__init__" = true)
    (eKf_NoPlan : PySem.W.keepIn K (.ref fI_NoPlan) = true)
    (eKp_NoPlan : PySem.W.keepIn K (.ref C_NoPlan) = true)
    (eHd_NoPlan : PySem.W.hasDictIn K C_NoPlan = true)
    (eCc_NoPlan : PySem.W.findIn K (.ref C_NoPlan) "__class__" = some (some (.builtin "object.__class__")))
    (eSp_NoPlan : PySem.W.specialIn K (.builtin "object.__class__") "__get__" = some (some (.builtin "getset_descriptor.__get__")))
    (eTk_NoPlan : PySem.W.takesIn K (.builtin "object.__class__") = some true)
    (eMo_NoPlan : PySem.W.mroIn K C_NoPlan (.type "object") = some true)
    {fI_Undecided : Addr} {nm_Undecided q_Undecided : Str} {NE_Undecided : Addr} {bs_Undecided : List Value} {sn_Undecided : List Str} {sub_Undecided : List Value} {ab_Undecided : Bool} {col_Undecided : Option Bool} {dd_Undecided : Option Addr} {m0_Undecided m1_Undecided m2_Undecided m3_Undecided m5_Undecided : Option Value} {od_Undecided an_Undecided : Option Addr} {sl_Undecided : Array (Option Value)} {oc_Undecided kV_Undecided dc_Undecided pm_Undecided cd_Undecided ct_Undecided : Value}
    (eX_Undecided : K.lookup C_Undecided = some (excClassObj nm_Undecided q_Undecided C_Undecided NE_Undecided bs_Undecided [.ref C_RedoError, .type "ValueError", .type "Exception", .type "BaseException", .type "object"] true sn_Undecided sub_Undecided ab_Undecided col_Undecided dd_Undecided m0_Undecided m1_Undecided m2_Undecided m3_Undecided m5_Undecided "ValueError.__new__"))
    (eSa_Undecided : PySem.W.findIn K (.ref C_Undecided) "__setattr__" = some (some (.builtin "object.__setattr__")))
    (eGa_Undecided : PySem.W.findIn K (.ref C_Undecided) "__getattribute__" = some (some (.builtin "BaseException.__getattribute__")))
    (eGg_Undecided : PySem.W.findIn K (.ref C_Undecided) "__getattr__" = some none)
    (eNb_Undecided : PySem.W.findIn K (.ref C_Undecided) "rings" = some none)
    (eIn_Undecided : PySem.W.findIn K (.ref C_Undecided) "__init__" = some (some (.ref fI_Undecided)))
    (eTf_Undecided : PySem.W.typeIn K (.ref fI_Undecided) = some (.type "function"))
    (eLk_Undecided : K.lookup fI_Undecided = some ⟨oc_Undecided, od_Undecided, .func (PySem.W.fnOf "__init__" "Undecided.__init__" (defArgs sUndecidedu_initu) (defBody sUndecidedu_initu) (defScope sUndecidedu_initu) .none kV_Undecided dc_Undecided pm_Undecided an_Undecided cd_Undecided ct_Undecided), sl_Undecided⟩)
    (eCd_Undecided : PySem.W.codeIn K cd_Undecided "Undecided.__init__" = true)
    (eKf_Undecided : PySem.W.keepIn K (.ref fI_Undecided) = true)
    (eKp_Undecided : PySem.W.keepIn K (.ref C_Undecided) = true)
    (eHd_Undecided : PySem.W.hasDictIn K C_Undecided = true)
    (eCc_Undecided : PySem.W.findIn K (.ref C_Undecided) "__class__" = some (some (.builtin "object.__class__")))
    (eSp_Undecided : PySem.W.specialIn K (.builtin "object.__class__") "__get__" = some (some (.builtin "getset_descriptor.__get__")))
    (eTk_Undecided : PySem.W.takesIn K (.builtin "object.__class__") = some true)
    (eMo_Undecided : PySem.W.mroIn K C_Undecided (.type "object") = some true)
    (eQx_NotRenaming : PySem.W.excIn K C_NotRenaming vBase "ValueError.__new__" = true)
    (eKp_NotRenaming : PySem.W.keepIn K (.ref C_NotRenaming) = true)
    (eGa_NotRenaming : PySem.W.findIn K (.ref C_NotRenaming) "__getattribute__" = some (some (.builtin "BaseException.__getattribute__")))
    (eGg_NotRenaming : PySem.W.findIn K (.ref C_NotRenaming) "__getattr__" = some none)
    (eHd_NotRenaming : PySem.W.hasDictIn K C_NotRenaming = true)
    (eCc_NotRenaming : PySem.W.findIn K (.ref C_NotRenaming) "__class__" = some (some (.builtin "object.__class__")))
    (eSp_NotRenaming : PySem.W.specialIn K (.builtin "object.__class__") "__get__" = some (some (.builtin "getset_descriptor.__get__")))
    (eTk_NotRenaming : PySem.W.takesIn K (.builtin "object.__class__") = some true)
    (eMo_NotRenaming : PySem.W.mroIn K C_NotRenaming (.type "object") = some true)
    (eS_NotRenaming_InvalidImage : PySem.W.subIn K (.ref C_NotRenaming) (.ref C_InvalidImage) = some false)
    (eS_Undecided_RedoError : PySem.W.subIn K (.ref C_Undecided) (.ref C_RedoError) = some true)
    (eS_Undecided_NoPlan : PySem.W.subIn K (.ref C_Undecided) (.ref C_NoPlan) = some false)
    (eS_NotRenaming_NoPlan : PySem.W.subIn K (.ref C_NotRenaming) (.ref C_NoPlan) = some false)
    : ∃ fd : FuncData, (∀ (s : Shared) (v : Value), BindsTo s fd ⟨[v], []⟩ [("script", v)]) ∧ ∀ base : Heap, K.In base → base.Ns mainGlobals mg → FnOk l.prog w K mg base CX0 14 fa fd ["script"] (splaw K) := by
  have e := hfa.symm.trans (PySem.W.mg_of X G a60)
  cases e
  have T : Top K mg := ⟨def_mk X G a0 l0 c0 k0 (fun _ _ _ _ _ _ us hl => match us, hl with | [_], _ => rfl),
    def_mk X G a1 l1 c1 k1 (fun _ _ _ _ _ _ us hl => match us, hl with | [_], _ => rfl),
    def_mk X G a2 l2 c2 k2 (fun _ _ _ _ _ _ us hl => match us, hl with | [_], _ => rfl),
    def_mk X G a3 l3 c3 k3 (fun _ _ _ _ _ _ us hl => match us, hl with | [_, _], _ => rfl),
    def_mk X G a4 l4 c4 k4 (fun _ _ _ _ _ _ us hl => match us, hl with | [_], _ => rfl),
    def_mk X G a5 l5 c5 k5 (fun _ _ _ _ _ _ us hl => match us, hl with | [_, _], _ => rfl),
    def_mk X G a6 l6 c6 k6 (fun _ _ _ _ _ _ us hl => match us, hl with | [_, _], _ => rfl),
    def_mk X G a7 l7 c7 k7 (fun _ _ _ _ _ _ us hl => match us, hl with | [_, _], _ => rfl),
    def_mk X G a8 l8 c8 k8 (fun _ _ _ _ _ _ us hl => match us, hl with | [_, _], _ => rfl),
    def_mk X G a9 l9 c9 k9 (fun _ _ _ _ _ _ us hl => match us, hl with | [_, _], _ => rfl),
    def_mk X G a10 l10 c10 k10 (fun _ _ _ _ _ _ us hl => match us, hl with | [_, _, _], _ => rfl),
    def_mk X G a11 l11 c11 k11 (fun _ _ _ _ _ _ us hl => match us, hl with | [_, _], _ => rfl),
    def_mk X G a12 l12 c12 k12 (fun _ _ _ _ _ _ us hl => match us, hl with | [_, _], _ => rfl),
    def_mk X G a13 l13 c13 k13 (fun _ _ _ _ _ _ us hl => match us, hl with | [_, _], _ => rfl),
    def_mk X G a14 l14 c14 k14 (fun _ _ _ _ _ _ us hl => match us, hl with | [_], _ => rfl),
    def_mk X G a15 l15 c15 k15 (fun _ _ _ _ _ _ us hl => match us, hl with | [_, _, _], _ => rfl),
    def_mk X G a16 l16 c16 k16 (fun _ _ _ _ _ _ us hl => match us, hl with | [_, _], _ => rfl),
    def_mk X G a17 l17 c17 k17 (fun _ _ _ _ _ _ us hl => match us, hl with | [_, _], _ => rfl),
    def_mk X G a18 l18 c18 k18 (fun _ _ _ _ _ _ us hl => match us, hl with | [_, _], _ => rfl),
    def_mk X G a19 l19 c19 k19 (fun _ _ _ _ _ _ us hl => match us, hl with | [_, _, _], _ => rfl),
    def_mk X G a20 l20 c20 k20 (fun _ _ _ _ _ _ us hl => match us, hl with | [_], _ => rfl),
    def_mk X G a21 l21 c21 k21 (fun _ _ _ _ _ _ us hl => match us, hl with | [_], _ => rfl),
    def_mk X G a22 l22 c22 k22 (fun _ _ _ _ _ _ us hl => match us, hl with | [_], _ => rfl),
    def_mk X G a23 l23 c23 k23 (fun _ _ _ _ _ _ us hl => match us, hl with | [_, _, _], _ => rfl),
    def_mk X G a24 l24 c24 k24 (fun _ _ _ _ _ _ us hl => match us, hl with | [_, _], _ => rfl),
    def_mk X G a25 l25 c25 k25 (fun _ _ _ _ _ _ us hl => match us, hl with | [_, _], _ => rfl),
    def_mk X G a26 l26 c26 k26 (fun _ _ _ _ _ _ us hl => match us, hl with | [_], _ => rfl),
    def_mk X G a27 l27 c27 k27 (fun _ _ _ _ _ _ us hl => match us, hl with | [_, _], _ => rfl),
    def_mk X G a28 l28 c28 k28 (fun _ _ _ _ _ _ us hl => match us, hl with | [_, _, _], _ => rfl),
    def_mk X G a29 l29 c29 k29 (fun _ _ _ _ _ _ us hl => match us, hl with | [_], _ => rfl),
    def_mk X G a30 l30 c30 k30 (fun _ _ _ _ _ _ us hl => match us, hl with | [_, _, _], _ => rfl),
    def_mk X G a31 l31 c31 k31 (fun _ _ _ _ _ _ us hl => match us, hl with | [_, _, _, _], _ => rfl),
    def_mk X G a32 l32 c32 k32 (fun _ _ _ _ _ _ us hl => match us, hl with | [_, _, _, _], _ => rfl),
    def_mk X G a33 l33 c33 k33 (fun _ _ _ _ _ _ us hl => match us, hl with | [_, _, _], _ => rfl),
    def_mk X G a34 l34 c34 k34 (fun _ _ _ _ _ _ us hl => match us, hl with | [_, _], _ => rfl),
    def_mk X G a35 l35 c35 k35 (fun _ _ _ _ _ _ us hl => match us, hl with | [_, _, _], _ => rfl),
    def_mk X G a36 l36 c36 k36 (fun _ _ _ _ _ _ us hl => match us, hl with | [_, _], _ => rfl),
    def_mk X G a37 l37 c37 k37 (fun _ _ _ _ _ _ us hl => match us, hl with | [_], _ => rfl),
    def_mk X G a38 l38 c38 k38 (fun _ _ _ _ _ _ us hl => match us, hl with | [_, _], _ => rfl),
    def_mk X G a39 l39 c39 k39 (fun _ _ _ _ _ _ us hl => match us, hl with | [_, _], _ => rfl),
    def_mk X G a40 l40 c40 k40 (fun _ _ _ _ _ _ us hl => match us, hl with | [_, _], _ => rfl),
    def_mk X G a41 l41 c41 k41 (fun _ _ _ _ _ _ us hl => match us, hl with | [_, _], _ => rfl),
    def_mk X G a42 l42 c42 k42 (fun _ _ _ _ _ _ us hl => match us, hl with | [_, _], _ => rfl),
    def_mk X G a43 l43 c43 k43 (fun _ _ _ _ _ _ us hl => match us, hl with | [_, _], _ => rfl),
    def_mk X G a44 l44 c44 k44 (fun _ _ _ _ _ _ us hl => match us, hl with | [_, _, _], _ => rfl),
    def_mk X G a45 l45 c45 k45 (fun _ _ _ _ _ _ us hl => match us, hl with | [_, _, _], _ => rfl),
    def_mk X G a46 l46 c46 k46 (fun _ _ _ _ _ _ us hl => match us, hl with | [_, _, _, _], _ => rfl),
    def_mk X G a47 l47 c47 k47 (fun _ _ _ _ _ _ us hl => match us, hl with | [_, _, _, _], _ => rfl),
    def_mk X G a48 l48 c48 k48 (fun _ _ _ _ _ _ us hl => match us, hl with | [_, _, _], _ => rfl),
    def_mk X G a49 l49 c49 k49 (fun _ _ _ _ _ _ us hl => match us, hl with | [_, _], _ => rfl),
    def_mk X G a50 l50 c50 k50 (fun _ _ _ _ _ _ us hl => match us, hl with | [_, _], _ => rfl),
    def_mk X G a51 l51 c51 k51 (fun _ _ _ _ _ _ us hl => match us, hl with | [_, _, _], _ => rfl),
    def_mk X G a52 l52 c52 k52 (fun _ _ _ _ _ _ us hl => match us, hl with | [_, _, _], _ => rfl),
    def_mk X G a53 l53 c53 k53 (fun _ _ _ _ _ _ us hl => match us, hl with | [_, _, _], _ => rfl),
    def_mk X G a54 l54 c54 k54 (fun _ _ _ _ _ _ us hl => match us, hl with | [_, _, _], _ => rfl),
    def_mk X G a55 l55 c55 k55 (fun _ _ _ _ _ _ us hl => match us, hl with | [_, _, _, _], _ => rfl),
    def_mk X G a56 l56 c56 k56 (fun _ _ _ _ _ _ us hl => match us, hl with | [_, _, _], _ => rfl),
    def_mk X G a57 l57 c57 k57 (fun _ _ _ _ _ _ us hl => match us, hl with | [_, _], _ => rfl),
    def_mk X G a58 l58 c58 k58 (fun _ _ _ _ _ _ us hl => match us, hl with | [_, _], _ => rfl),
    def_mk X G a59 l59 c59 k59 (fun _ _ _ _ _ _ us hl => match us, hl with | [_, _, _], _ => rfl),
    def_mk X G a60 l60 c60 k60 (fun _ _ _ _ _ _ us hl => match us, hl with | [_], _ => rfl),
    PySem.W.mg_none_of X G z0,
    PySem.W.mg_none_of X G z1,
    PySem.W.mg_none_of X G z2,
    PySem.W.mg_none_of X G z3,
    PySem.W.mg_none_of X G z4,
    PySem.W.mg_none_of X G z5,
    PySem.W.mg_none_of X G z6,
    PySem.W.mg_none_of X G z7,
    PySem.W.mg_none_of X G z8,
    PySem.W.mg_none_of X G z9,
    PySem.W.mg_none_of X G z10,
    PySem.W.mg_none_of X G z11,
    PySem.W.mg_none_of X G z12,
    PySem.W.mg_none_of X G z13,
    PySem.W.mg_none_of X G z14,
    PySem.W.mg_none_of X G z15,
    PySem.W.mg_none_of X G z16,
    const_mk X G y0 ⟨_, rfl⟩,
    const_mk X G y1 ⟨_, rfl⟩,
    const_mk X G y2 ⟨_, rfl⟩,
    (by
      rw [atTop_of eC_InvalidImage]
      have F := fun_mk (st := sInvalidImageu_initu) eLk_InvalidImage eCd_InvalidImage eKf_InvalidImage
      exact ⟨fI_InvalidImage, _, ⟨PySem.W.mg_of X G eC_InvalidImage, ⟨⟨_, _, _, _, _, _, _, _, _, _, _, _, _, _, _, eX_InvalidImage, by rfl⟩, eSa_InvalidImage, eSb_InvalidImage, eTy_InvalidImage, eKp_InvalidImage⟩, ⟨eGa_InvalidImage, eGg_InvalidImage, eSb_InvalidImage, eHd_InvalidImage⟩, ⟨eGa_InvalidImage, eGg_InvalidImage, eSb_InvalidImage, eHd_InvalidImage, eCc_InvalidImage, eSp_InvalidImage, eTk_InvalidImage, eMo_InvalidImage⟩, eIc_InvalidImage, eNb_InvalidImage, eIn_InvalidImage, eTf_InvalidImage⟩, F, F.binds (ps := ["self", "block"]) fun _ _ _ _ _ _ us hl => match us, hl with | [_, _], _ => rfl⟩),
    (by
      rw [atTop_of eC_NoPlan]
      have F := fun_mk (st := sNoPlanu_initu) eLk_NoPlan eCd_NoPlan eKf_NoPlan
      exact ⟨fI_NoPlan, _, ⟨PySem.W.mg_of X G eC_NoPlan, ⟨⟨_, _, _, _, _, _, _, _, _, _, _, _, _, _, _, eX_NoPlan, by rfl⟩, eSa_NoPlan, eSb_NoPlan, eTy_NoPlan, eKp_NoPlan⟩, ⟨eGa_NoPlan, eGg_NoPlan, eSb_NoPlan, eHd_NoPlan⟩, ⟨eGa_NoPlan, eGg_NoPlan, eSb_NoPlan, eHd_NoPlan, eCc_NoPlan, eSp_NoPlan, eTk_NoPlan, eMo_NoPlan⟩, eIc_NoPlan, eNb_NoPlan, eIn_NoPlan, eTf_NoPlan⟩, F, F.binds (ps := ["self", "reason"]) fun _ _ _ _ _ _ us hl => match us, hl with | [_, _], _ => rfl⟩),
    (by
      rw [atTop_of eC_Undecided]
      have F := fun_mk (st := sUndecidedu_initu) eLk_Undecided eCd_Undecided eKf_Undecided
      exact ⟨fI_Undecided, _, ⟨PySem.W.mg_of X G eC_Undecided, ⟨⟨_, _, _, _, _, _, _, _, _, _, _, _, _, _, _, eX_Undecided, by rfl⟩, eSa_Undecided, eSb_Undecided, eTy_Undecided, eKp_Undecided⟩, ⟨eGa_Undecided, eGg_Undecided, eSb_Undecided, eHd_Undecided⟩, ⟨eGa_Undecided, eGg_Undecided, eSb_Undecided, eHd_Undecided, eCc_Undecided, eSp_Undecided, eTk_Undecided, eMo_Undecided⟩, eIc_Undecided, eNb_Undecided, eIn_Undecided, eTf_Undecided⟩, F, F.binds (ps := ["self", "rings"]) fun _ _ _ _ _ _ us hl => match us, hl with | [_, _], _ => rfl⟩),
    ⟨_, PySem.W.mg_of X G eC_InvalidImage, (by rw [atTop_of eC_InvalidImage]; rfl)⟩,
    ⟨_, PySem.W.mg_of X G eC_NoPlan, (by rw [atTop_of eC_NoPlan]; rfl)⟩,
    ⟨_, PySem.W.mg_of X G eC_NotRenaming, (by rw [atTop_of eC_NotRenaming]; rfl)⟩,
    ⟨_, PySem.W.mg_of X G eC_RedoError, (by rw [atTop_of eC_RedoError]; rfl)⟩,
    ⟨_, PySem.W.mg_of X G eC_Undecided, (by rw [atTop_of eC_Undecided]; rfl)⟩,
    (by rw [atTop_of eC_NotRenaming]; exact ⟨PySem.W.mg_of X G eC_NotRenaming, eQx_NotRenaming, eKp_NotRenaming, eSb_NotRenaming, eTy_NotRenaming, ⟨eGa_NotRenaming, eGg_NotRenaming, eSb_NotRenaming, eHd_NotRenaming, eCc_NotRenaming, eSp_NotRenaming, eTk_NotRenaming, eMo_NotRenaming⟩, eIc_NotRenaming⟩),
    (by rw [atTop_of eC_InvalidImage]; exact exm_of eSb_InvalidImage eIc_InvalidImage eTy_InvalidImage eSs_InvalidImage),
    (by rw [atTop_of eC_NotRenaming, atTop_of eC_InvalidImage]; exact exm_of eSb_InvalidImage eIc_InvalidImage eTy_InvalidImage eS_NotRenaming_InvalidImage),
    (by rw [atTop_of eC_NotRenaming]; exact exm_of eSb_NotRenaming eIc_NotRenaming eTy_NotRenaming eSs_NotRenaming),
    (by rw [atTop_of eC_Undecided]; exact exm_of eSb_Undecided eIc_Undecided eTy_Undecided eSs_Undecided),
    (by rw [atTop_of eC_Undecided, atTop_of eC_RedoError]; exact kit_refT eIc_RedoError eTy_RedoError eS_Undecided_RedoError),
    (by rw [atTop_of eC_Undecided, atTop_of eC_NoPlan]; exact kit_refF eIc_NoPlan eTy_NoPlan eS_Undecided_NoPlan eSs_Undecided),
    (by rw [atTop_of eC_NotRenaming, atTop_of eC_InvalidImage]; exact kit_refF eIc_InvalidImage eTy_InvalidImage eS_NotRenaming_InvalidImage eSs_NotRenaming),
    (by rw [atTop_of eC_NotRenaming, atTop_of eC_NoPlan]; exact kit_refF eIc_NoPlan eTy_NoPlan eS_NotRenaming_NoPlan eSs_NotRenaming)⟩
  have F := fun_mk (st := slaw) l60 c60 k60
  exact ⟨_, fun s v => .of_eq rfl, fun base _ _ => oklaw T ⟨F, F.binds (ps := ["script"]) fun _ _ _ _ _ _ us hl => match us, hl with | [_], _ => rfl, PySem.W.mg_of X G a60⟩⟩
end K40
open PySem PySem.W PyProof.Rows in
set_option maxRecDepth 100000 in
set_option maxHeartbeats 0 in
theorem PySem.Challenge.cw_redolots_k40_whole_obstacles_hold_holds : PySem.Challenge.rw_redolots_k40_whole_obstacles_hold.Holds := by
  w_on; o_law; k_head; (case hw => w_witness2)
  k_fill
  refine L2.walk_ofK (l := PySem.Challenge.rw_redolots_k40_whole_obstacles_hold) (n := 63) (k := 14) (x := "script") (CX := L2.CX0) (sp := K40.splaw) rfl (by decide) rfl ⟨rfl, by decide, by decide⟩ (fun w h Y => PySem.W.kIn_of Y) ?F (fun K H a ns hl _ hS => ⟨a, ns, rfl, hS, hl, fun _ => rfl⟩) (fun _ _ _ _ z => z)
  case F =>
    intro w mg fa h KX G hmg
    refine' K40.all_mk KX G hmg ?a0 ?l0 ?c0 ?k0 ?a1 ?l1 ?c1 ?k1 ?a2 ?l2 ?c2 ?k2 ?a3 ?l3 ?c3 ?k3 ?a4 ?l4 ?c4 ?k4 ?a5 ?l5 ?c5 ?k5 ?a6 ?l6 ?c6 ?k6 ?a7 ?l7 ?c7 ?k7 ?a8 ?l8 ?c8 ?k8 ?a9 ?l9 ?c9 ?k9 ?a10 ?l10 ?c10 ?k10 ?a11 ?l11 ?c11 ?k11 ?a12 ?l12 ?c12 ?k12 ?a13 ?l13 ?c13 ?k13 ?a14 ?l14 ?c14 ?k14 ?a15 ?l15 ?c15 ?k15 ?a16 ?l16 ?c16 ?k16 ?a17 ?l17 ?c17 ?k17 ?a18 ?l18 ?c18 ?k18 ?a19 ?l19 ?c19 ?k19 ?a20 ?l20 ?c20 ?k20 ?a21 ?l21 ?c21 ?k21 ?a22 ?l22 ?c22 ?k22 ?a23 ?l23 ?c23 ?k23 ?a24 ?l24 ?c24 ?k24 ?a25 ?l25 ?c25 ?k25 ?a26 ?l26 ?c26 ?k26 ?a27 ?l27 ?c27 ?k27 ?a28 ?l28 ?c28 ?k28 ?a29 ?l29 ?c29 ?k29 ?a30 ?l30 ?c30 ?k30 ?a31 ?l31 ?c31 ?k31 ?a32 ?l32 ?c32 ?k32 ?a33 ?l33 ?c33 ?k33 ?a34 ?l34 ?c34 ?k34 ?a35 ?l35 ?c35 ?k35 ?a36 ?l36 ?c36 ?k36 ?a37 ?l37 ?c37 ?k37 ?a38 ?l38 ?c38 ?k38 ?a39 ?l39 ?c39 ?k39 ?a40 ?l40 ?c40 ?k40 ?a41 ?l41 ?c41 ?k41 ?a42 ?l42 ?c42 ?k42 ?a43 ?l43 ?c43 ?k43 ?a44 ?l44 ?c44 ?k44 ?a45 ?l45 ?c45 ?k45 ?a46 ?l46 ?c46 ?k46 ?a47 ?l47 ?c47 ?k47 ?a48 ?l48 ?c48 ?k48 ?a49 ?l49 ?c49 ?k49 ?a50 ?l50 ?c50 ?k50 ?a51 ?l51 ?c51 ?k51 ?a52 ?l52 ?c52 ?k52 ?a53 ?l53 ?c53 ?k53 ?a54 ?l54 ?c54 ?k54 ?a55 ?l55 ?c55 ?k55 ?a56 ?l56 ?c56 ?k56 ?a57 ?l57 ?c57 ?k57 ?a58 ?l58 ?c58 ?k58 ?a59 ?l59 ?c59 ?k59 ?a60 ?l60 ?c60 ?k60 ?z0 ?z1 ?z2 ?z3 ?z4 ?z5 ?z6 ?z7 ?z8 ?z9 ?z10 ?z11 ?z12 ?z13 ?z14 ?z15 ?z16 ?y0 ?y1 ?y2 ?eC_InvalidImage ?eIc_InvalidImage ?eTy_InvalidImage ?eSb_InvalidImage ?eSs_InvalidImage ?eC_NoPlan ?eIc_NoPlan ?eTy_NoPlan ?eSb_NoPlan ?eSs_NoPlan ?eC_Undecided ?eIc_Undecided ?eTy_Undecided ?eSb_Undecided ?eSs_Undecided ?eC_NotRenaming ?eIc_NotRenaming ?eTy_NotRenaming ?eSb_NotRenaming ?eSs_NotRenaming ?eC_RedoError ?eIc_RedoError ?eTy_RedoError ?eSb_RedoError ?eSs_RedoError ?eX_InvalidImage ?eSa_InvalidImage ?eGa_InvalidImage ?eGg_InvalidImage ?eNb_InvalidImage ?eIn_InvalidImage ?eTf_InvalidImage ?eLk_InvalidImage ?eCd_InvalidImage ?eKf_InvalidImage ?eKp_InvalidImage ?eHd_InvalidImage ?eCc_InvalidImage ?eSp_InvalidImage ?eTk_InvalidImage ?eMo_InvalidImage ?eX_NoPlan ?eSa_NoPlan ?eGa_NoPlan ?eGg_NoPlan ?eNb_NoPlan ?eIn_NoPlan ?eTf_NoPlan ?eLk_NoPlan ?eCd_NoPlan ?eKf_NoPlan ?eKp_NoPlan ?eHd_NoPlan ?eCc_NoPlan ?eSp_NoPlan ?eTk_NoPlan ?eMo_NoPlan ?eX_Undecided ?eSa_Undecided ?eGa_Undecided ?eGg_Undecided ?eNb_Undecided ?eIn_Undecided ?eTf_Undecided ?eLk_Undecided ?eCd_Undecided ?eKf_Undecided ?eKp_Undecided ?eHd_Undecided ?eCc_Undecided ?eSp_Undecided ?eTk_Undecided ?eMo_Undecided ?eQx_NotRenaming ?eKp_NotRenaming ?eGa_NotRenaming ?eGg_NotRenaming ?eHd_NotRenaming ?eCc_NotRenaming ?eSp_NotRenaming ?eTk_NotRenaming ?eMo_NotRenaming ?eS_NotRenaming_InvalidImage ?eS_Undecided_RedoError ?eS_Undecided_NoPlan ?eS_NotRenaming_NoPlan
    (case a0 => k_is)
    (case l0 => k_is)
    (case c0 => k_is)
    (case k0 => k_is)
    (case a1 => k_is)
    (case l1 => k_is)
    (case c1 => k_is)
    (case k1 => k_is)
    (case a2 => k_is)
    (case l2 => k_is)
    (case c2 => k_is)
    (case k2 => k_is)
    (case a3 => k_is)
    (case l3 => k_is)
    (case c3 => k_is)
    (case k3 => k_is)
    (case a4 => k_is)
    (case l4 => k_is)
    (case c4 => k_is)
    (case k4 => k_is)
    (case a5 => k_is)
    (case l5 => k_is)
    (case c5 => k_is)
    (case k5 => k_is)
    (case a6 => k_is)
    (case l6 => k_is)
    (case c6 => k_is)
    (case k6 => k_is)
    (case a7 => k_is)
    (case l7 => k_is)
    (case c7 => k_is)
    (case k7 => k_is)
    (case a8 => k_is)
    (case l8 => k_is)
    (case c8 => k_is)
    (case k8 => k_is)
    (case a9 => k_is)
    (case l9 => k_is)
    (case c9 => k_is)
    (case k9 => k_is)
    (case a10 => k_is)
    (case l10 => k_is)
    (case c10 => k_is)
    (case k10 => k_is)
    (case a11 => k_is)
    (case l11 => k_is)
    (case c11 => k_is)
    (case k11 => k_is)
    (case a12 => k_is)
    (case l12 => k_is)
    (case c12 => k_is)
    (case k12 => k_is)
    (case a13 => k_is)
    (case l13 => k_is)
    (case c13 => k_is)
    (case k13 => k_is)
    (case a14 => k_is)
    (case l14 => k_is)
    (case c14 => k_is)
    (case k14 => k_is)
    (case a15 => k_is)
    (case l15 => k_is)
    (case c15 => k_is)
    (case k15 => k_is)
    (case a16 => k_is)
    (case l16 => k_is)
    (case c16 => k_is)
    (case k16 => k_is)
    (case a17 => k_is)
    (case l17 => k_is)
    (case c17 => k_is)
    (case k17 => k_is)
    (case a18 => k_is)
    (case l18 => k_is)
    (case c18 => k_is)
    (case k18 => k_is)
    (case a19 => k_is)
    (case l19 => k_is)
    (case c19 => k_is)
    (case k19 => k_is)
    (case a20 => k_is)
    (case l20 => k_is)
    (case c20 => k_is)
    (case k20 => k_is)
    (case a21 => k_is)
    (case l21 => k_is)
    (case c21 => k_is)
    (case k21 => k_is)
    (case a22 => k_is)
    (case l22 => k_is)
    (case c22 => k_is)
    (case k22 => k_is)
    (case a23 => k_is)
    (case l23 => k_is)
    (case c23 => k_is)
    (case k23 => k_is)
    (case a24 => k_is)
    (case l24 => k_is)
    (case c24 => k_is)
    (case k24 => k_is)
    (case a25 => k_is)
    (case l25 => k_is)
    (case c25 => k_is)
    (case k25 => k_is)
    (case a26 => k_is)
    (case l26 => k_is)
    (case c26 => k_is)
    (case k26 => k_is)
    (case a27 => k_is)
    (case l27 => k_is)
    (case c27 => k_is)
    (case k27 => k_is)
    (case a28 => k_is)
    (case l28 => k_is)
    (case c28 => k_is)
    (case k28 => k_is)
    (case a29 => k_is)
    (case l29 => k_is)
    (case c29 => k_is)
    (case k29 => k_is)
    (case a30 => k_is)
    (case l30 => k_is)
    (case c30 => k_is)
    (case k30 => k_is)
    (case a31 => k_is)
    (case l31 => k_is)
    (case c31 => k_is)
    (case k31 => k_is)
    (case a32 => k_is)
    (case l32 => k_is)
    (case c32 => k_is)
    (case k32 => k_is)
    (case a33 => k_is)
    (case l33 => k_is)
    (case c33 => k_is)
    (case k33 => k_is)
    (case a34 => k_is)
    (case l34 => k_is)
    (case c34 => k_is)
    (case k34 => k_is)
    (case a35 => k_is)
    (case l35 => k_is)
    (case c35 => k_is)
    (case k35 => k_is)
    (case a36 => k_is)
    (case l36 => k_is)
    (case c36 => k_is)
    (case k36 => k_is)
    (case a37 => k_is)
    (case l37 => k_is)
    (case c37 => k_is)
    (case k37 => k_is)
    (case a38 => k_is)
    (case l38 => k_is)
    (case c38 => k_is)
    (case k38 => k_is)
    (case a39 => k_is)
    (case l39 => k_is)
    (case c39 => k_is)
    (case k39 => k_is)
    (case a40 => k_is)
    (case l40 => k_is)
    (case c40 => k_is)
    (case k40 => k_is)
    (case a41 => k_is)
    (case l41 => k_is)
    (case c41 => k_is)
    (case k41 => k_is)
    (case a42 => k_is)
    (case l42 => k_is)
    (case c42 => k_is)
    (case k42 => k_is)
    (case a43 => k_is)
    (case l43 => k_is)
    (case c43 => k_is)
    (case k43 => k_is)
    (case a44 => k_is)
    (case l44 => k_is)
    (case c44 => k_is)
    (case k44 => k_is)
    (case a45 => k_is)
    (case l45 => k_is)
    (case c45 => k_is)
    (case k45 => k_is)
    (case a46 => k_is)
    (case l46 => k_is)
    (case c46 => k_is)
    (case k46 => k_is)
    (case a47 => k_is)
    (case l47 => k_is)
    (case c47 => k_is)
    (case k47 => k_is)
    (case a48 => k_is)
    (case l48 => k_is)
    (case c48 => k_is)
    (case k48 => k_is)
    (case a49 => k_is)
    (case l49 => k_is)
    (case c49 => k_is)
    (case k49 => k_is)
    (case a50 => k_is)
    (case l50 => k_is)
    (case c50 => k_is)
    (case k50 => k_is)
    (case a51 => k_is)
    (case l51 => k_is)
    (case c51 => k_is)
    (case k51 => k_is)
    (case a52 => k_is)
    (case l52 => k_is)
    (case c52 => k_is)
    (case k52 => k_is)
    (case a53 => k_is)
    (case l53 => k_is)
    (case c53 => k_is)
    (case k53 => k_is)
    (case a54 => k_is)
    (case l54 => k_is)
    (case c54 => k_is)
    (case k54 => k_is)
    (case a55 => k_is)
    (case l55 => k_is)
    (case c55 => k_is)
    (case k55 => k_is)
    (case a56 => k_is)
    (case l56 => k_is)
    (case c56 => k_is)
    (case k56 => k_is)
    (case a57 => k_is)
    (case l57 => k_is)
    (case c57 => k_is)
    (case k57 => k_is)
    (case a58 => k_is)
    (case l58 => k_is)
    (case c58 => k_is)
    (case k58 => k_is)
    (case a59 => k_is)
    (case l59 => k_is)
    (case c59 => k_is)
    (case k59 => k_is)
    (case a60 => k_is)
    (case l60 => k_is)
    (case c60 => k_is)
    (case k60 => k_is)
    (case z0 => k_is)
    (case z1 => k_is)
    (case z2 => k_is)
    (case z3 => k_is)
    (case z4 => k_is)
    (case z5 => k_is)
    (case z6 => k_is)
    (case z7 => k_is)
    (case z8 => k_is)
    (case z9 => k_is)
    (case z10 => k_is)
    (case z11 => k_is)
    (case z12 => k_is)
    (case z13 => k_is)
    (case z14 => k_is)
    (case z15 => k_is)
    (case z16 => k_is)
    (case y0 => k_is)
    (case y1 => k_is)
    (case y2 => k_is)
    (case eC_InvalidImage => k_is)
    (case eIc_InvalidImage => k_is)
    (case eTy_InvalidImage => k_is)
    (case eSb_InvalidImage => k_is)
    (case eSs_InvalidImage => k_is)
    (case eC_NoPlan => k_is)
    (case eIc_NoPlan => k_is)
    (case eTy_NoPlan => k_is)
    (case eSb_NoPlan => k_is)
    (case eSs_NoPlan => k_is)
    (case eC_Undecided => k_is)
    (case eIc_Undecided => k_is)
    (case eTy_Undecided => k_is)
    (case eSb_Undecided => k_is)
    (case eSs_Undecided => k_is)
    (case eC_NotRenaming => k_is)
    (case eIc_NotRenaming => k_is)
    (case eTy_NotRenaming => k_is)
    (case eSb_NotRenaming => k_is)
    (case eSs_NotRenaming => k_is)
    (case eC_RedoError => k_is)
    (case eIc_RedoError => k_is)
    (case eTy_RedoError => k_is)
    (case eSb_RedoError => k_is)
    (case eSs_RedoError => k_is)
    (case eX_InvalidImage => k_is)
    (case eSa_InvalidImage => k_is)
    (case eGa_InvalidImage => k_is)
    (case eGg_InvalidImage => k_is)
    (case eNb_InvalidImage => k_is)
    (case eIn_InvalidImage => k_is)
    (case eTf_InvalidImage => k_is)
    (case eLk_InvalidImage => k_is)
    (case eCd_InvalidImage => k_is)
    (case eKf_InvalidImage => k_is)
    (case eKp_InvalidImage => k_is)
    (case eHd_InvalidImage => k_is)
    (case eCc_InvalidImage => k_is)
    (case eSp_InvalidImage => k_is)
    (case eTk_InvalidImage => k_is)
    (case eMo_InvalidImage => k_is)
    (case eX_NoPlan => k_is)
    (case eSa_NoPlan => k_is)
    (case eGa_NoPlan => k_is)
    (case eGg_NoPlan => k_is)
    (case eNb_NoPlan => k_is)
    (case eIn_NoPlan => k_is)
    (case eTf_NoPlan => k_is)
    (case eLk_NoPlan => k_is)
    (case eCd_NoPlan => k_is)
    (case eKf_NoPlan => k_is)
    (case eKp_NoPlan => k_is)
    (case eHd_NoPlan => k_is)
    (case eCc_NoPlan => k_is)
    (case eSp_NoPlan => k_is)
    (case eTk_NoPlan => k_is)
    (case eMo_NoPlan => k_is)
    (case eX_Undecided => k_is)
    (case eSa_Undecided => k_is)
    (case eGa_Undecided => k_is)
    (case eGg_Undecided => k_is)
    (case eNb_Undecided => k_is)
    (case eIn_Undecided => k_is)
    (case eTf_Undecided => k_is)
    (case eLk_Undecided => k_is)
    (case eCd_Undecided => k_is)
    (case eKf_Undecided => k_is)
    (case eKp_Undecided => k_is)
    (case eHd_Undecided => k_is)
    (case eCc_Undecided => k_is)
    (case eSp_Undecided => k_is)
    (case eTk_Undecided => k_is)
    (case eMo_Undecided => k_is)
    (case eQx_NotRenaming => k_exc)
    (case eKp_NotRenaming => k_is)
    (case eGa_NotRenaming => k_is)
    (case eGg_NotRenaming => k_is)
    (case eHd_NotRenaming => k_is)
    (case eCc_NotRenaming => k_is)
    (case eSp_NotRenaming => k_is)
    (case eTk_NotRenaming => k_is)
    (case eMo_NotRenaming => k_is)
    (case eS_NotRenaming_InvalidImage => k_is)
    (case eS_Undecided_RedoError => k_is)
    (case eS_Undecided_NoPlan => k_is)
    (case eS_NotRenaming_NoPlan => k_is)
