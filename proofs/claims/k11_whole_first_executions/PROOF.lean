import PyProof.Rows.All
import Wide.All
import OpenK.AllK
import Wide.FinOn
import KE.GoesEnum
import HandS.Base
import HandS.Call
import HandS.List
import HandS.Comp
import HandS.Ends
import HandS.Dict
import HandS.Iter
import HandS.Text
import HandS.Words
import HandS.WordsList
import HandS.IsInst
import HandS.Walk
import HandS.Codes
import HandS.Conv
import HandS.FStr
import HandS.Text
import HandS.Codes
import KE.KUnpack
import PyProof.RulesMatch
import PyProof.RulesMatchSeq
import PyProof.Rows.MatchSeqLen
import KE.KExcIs
import HandS.Exc
import HandS.ExcInit
import HandS.ExcField
import HandS.ExcIs
import HandS.ExcOwn
import HandS.TryOnly
import HandS.WordsExc
import HandS.Star
import HandS.Defaults
import HandS.More
import HandS.TryMany
import HandS.CallSlots
import HandS.HotCalls
import HandS.Set
import HandS.Strs
import HandS.SetFor
import HandS.TupLen
import HandS.DictComp
import KE.KDictKeyed
import HandS.SetKeys
import HandS.SetBool
import HandS.TupMul
import HandS.Zip
import HandS.SetFor
import HandS.Remove
import HandS.Star
import KE.DatumOrd
import HandS.ExcIs
import HandS.ExcOwn
import HandS.DictTup
import HandS.Conv
import HandS.ClsMeth
import HandS.TupMul
import KE.KIndexOf
import HandS.MakeKwOnly
import HandS.TupAny
import HandS.Deep
import HandS.TupLe
import KE.KDictKeyed
import PySem.Challenge.RW_redolots_k11_whole_first_executions
set_option Elab.async false
set_option linter.all false
set_option maxRecDepth 100000
set_option maxHeartbeats 4000000
/-! enumerate over a tracked tuple or a text, zip over two texts: walks of our own -/
namespace Rv
open PySem PySem.Spec PyProof.Rows L2

/-! zip of two texts -/
end Rv
/-! steps of a reading, one a piece; heaps; the bag of draws -/
namespace Rv
open PySem PySem.Spec PyProof.Rows L2

/-- a def of the top: where it stands, how its arguments bind -/
structure Def (K : PySem.W.Frag) (mg : Str → Option Value) (x : Str) (st : Stmt) (ps : List Str) (f : Addr) (fd : FuncData) : Prop where
  F : Fun K x x st f fd
  b : Binds K fd ps []
  g : mg x = some (.ref f)
theorem def_mk {K : PySem.W.Frag} {h : Heap} {mg : Str → Option Value} {x : Str} {st : Stmt} {ps : List Str} {f : Addr} {oc : Value} {od an : Option Addr} {osl : Array (Option Value)} {kV doc pm cdv ct : Value} (X : K.In h) (G : h.Ns mainGlobals mg)
    (a : PySem.W.nsIn K mainGlobals x = some (some (.ref f))) (l : K.lookup f = some ⟨oc, od, .func (PySem.W.fnOf x x (defArgs st) (defBody st) (defScope st) .none kV doc pm an cdv ct), osl⟩)
    (c : PySem.W.codeIn K cdv x = true) (k : PySem.W.keepIn K (.ref f) = true)
    (hb : ∀ (kV doc pm : Value) (an : Option Addr) (cdv ct : Value) (us : List Value), us.length = ps.length → bindArgs (PySem.W.fnOf x x (defArgs st) (defBody st) (defScope st) .none kV doc pm an cdv ct) ⟨us, []⟩ = pure (ps.zip us)) : ∃ f fd, Def K mg x st ps f fd := by
  have F := fun_mk (st := st) l c k
  exact ⟨f, _, F, F.binds hb, PySem.W.mg_of X G a⟩
section
variable {σ : L2.St} {H : Hp} {i : Nat} {v x y : V} {ta tb te : TE} {b : Bool} {K : PySem.W.Frag} {t u c : TT} {Q : VK} {QB : Bool → Hp → Prop} {QA : List V → Hp → Prop} {D : Ends} {s1 s2 : TS} {tr : TA} {r : R2}
theorem rd_var (h : σ[i]? = some (some v)) (q : Q v H) : tVar i σ H Q := ⟨v, h, q⟩
theorem rd_c (q : Q v H) : tC v σ H Q := q
theorem rd_op (q : ta σ H fun x H1 => tb σ H1 fun y H2 => r x y H2 Q) : tOp r ta tb σ H Q := q
theorem rd_un {r : V → Hp → VK → Prop} (q : ta σ H fun x H1 => r x H1 Q) : tUn r ta σ H Q := q
theorem rd_U {g : Int → V} {a : Int} (q : Q (g a) H) : rU g (.int a) H Q := ⟨a, rfl, q⟩
theorem rd_I0 {g : Int → Int → V} {a b : Int} (q : Q (g a b) H) : rI0 g (.int a) (.int b) H Q := ⟨a, b, rfl, rfl, q⟩
theorem rd_I {C : Int → Int → Prop} {g : Int → Int → V} {a b : Int} (hc : C a b) (q : Q (g a b) H) : rI C g (.int a) (.int b) H Q := ⟨a, b, rfl, rfl, hc, q⟩
theorem rd_eq (h : scal x y = true) (q : Q (.bl (decide (x = y))) H) : rEq x y H Q := ⟨h, q⟩
theorem rd_ne (h : scal x y = true) (q : Q (.bl (!decide (x = y))) H) : rNe x y H Q := ⟨h, q⟩
theorem rd_k {P : Bool → Prop} (q : P b) : ∃ k, V.bl b = V.bl k ∧ P k := ⟨b, rfl, q⟩
theorem rd_test (q : te σ H fun x H' => ∃ k, x = .bl k ∧ QB k H') : tTest te σ H QB := q
theorem rd_B (q : te σ H fun x H' => ∃ k, x = .bl k ∧ QB k H') : tB te σ H QB := q
theorem rd_not (q : t σ H fun c H1 => QB (!c) H1) : tNot t σ H QB := q
theorem rd_notV (q : te σ H fun x H1 => ∃ c, x = .bl c ∧ Q (.bl (!c)) H1) : tNotV te σ H Q := q
theorem rd_and (q : t σ H fun c H1 => if c = true then u σ H1 QB else QB false H1) : tAnd t u σ H QB := q
theorem rd_or (q : t σ H fun c H1 => if c = true then QB true H1 else u σ H1 QB) : tOr t u σ H QB := q
theorem rd_andV (q : ta σ H fun x H1 => ∃ c, x = .bl c ∧ if c = true then tb σ H1 Q else Q (.bl false) H1) : tAndV ta tb σ H Q := q
theorem rd_if (q : t σ H fun c H1 => if c = true then ta σ H1 Q else tb σ H1 Q) : tIf t ta tb σ H Q := q
theorem rd_chain {r' : R2} {tc : TE} (q : ta σ H fun x H1 => tb σ H1 fun y H2 => r x y H2 fun z H3 => ∃ k, z = .bl k ∧ if k = true then tc σ H3 fun w H4 => r' y w H4 Q else Q (.bl false) H3) : tChain r r' ta tb tc σ H Q := q
theorem rd_seq (q : s1 { D with nx := s2 D } σ H) : tSeq s1 s2 D σ H := q
theorem rd_next (q : D.nx σ H) : tNext D σ H := q
theorem rd_asg {g : TG} (q : te σ H fun x H1 => g x σ H1 D.nx) : tAsg te g D σ H := q
theorem rd_name {R : L2.St → Hp → Prop} (q : R (σ.set i (some v)) H) : gName i v σ H R := q
theorem rd_sub {to ti : TE} {ts : TSet} {R : L2.St → Hp → Prop} (q : to σ H fun o H1 => ti σ H1 fun i H2 => ts o i v H2 fun H3 => R σ H3) : gSub to ti ts v σ H R := q
theorem rd_gcons {g : TG} {gs : TGs} {R : L2.St → Hp → Prop} {vs : List V} (q : g v σ H fun σ' H' => gs vs σ' H' R) : gCons g gs (v :: vs) σ H R := ⟨v, vs, rfl, q⟩
theorem rd_gnil {R : L2.St → Hp → Prop} (q : R σ H) : gNil [] σ H R := ⟨rfl, q⟩
theorem rd_gtup {a : Addr} {xs : List V} {n : Nat} {gs : TGs} {R : L2.St → Hp → Prop} (h : H a = some (.tup xs)) (hn : xs.length = n) (q : gs xs σ H R) : gTup K n gs (.ref a) σ H R := ⟨a, xs, rfl, SqT.of h, hn, q⟩
theorem rd_ret (q : te σ H D.rt) : tRet te D σ H := q
theorem rd_drop (q : te σ H fun _ H1 => D.nx σ H1) : tDrop te D σ H := q
theorem rd_ifS (q : t σ H fun b H1 => if b = true then s1 D σ H1 else s2 D σ H1) : tIfS t s1 s2 D σ H := q
theorem rd_nil (q : QA [] H) : tNil σ H QA := q
theorem rd_cons (q : ta σ H fun x H1 => tr σ H1 fun xs H2 => QA (x :: xs) H2) : tCons ta tr σ H QA := q
theorem rd_CB {r : List V → Hp → VK → Prop} (q : tr σ H fun vs H1 => r vs H1 Q) : tCB r tr σ H Q := q
theorem rd_call {sp : Sp} {E : XK} (q : tr σ H fun vs H1 => sp vs H1 Q E) : tCall sp [] E tr σ H Q := by
  show tr σ H fun vs H1 => sp (vs ++ []) H1 Q E
  have e : (fun vs H1 => sp (vs ++ []) H1 Q E) = fun vs H1 => sp vs H1 Q E := by
    funext vs H1
    rw [List.append_nil]
  rw [e]
  exact q
theorem rd_ixL {p : Addr} {xs : List V} {a : Int} (h : SqL K H p xs) (e : atI xs a = some v) (q : Q v H) : rIxL K (.ref p) (.int a) H Q := ⟨p, xs, a, v, rfl, rfl, h, e, q⟩
theorem rd_ixT {p : Addr} {xs : List V} {a : Int} (h : H p = some (.tup xs)) (e : atI xs a = some v) (q : Q v H) : rIxT K (.ref p) (.int a) H Q := ⟨p, xs, a, v, rfl, rfl, SqT.of h, e, q⟩
theorem rd_setL {p : Addr} {xs : List V} {a : Int} {j : Nat} {R : Hp → Prop} (h : H p = some (.lst xs)) (e : ixN xs.length a = some j) (q : R (upd H p (.lst (xs.set j v)))) : rSetL (.ref p) (.int a) v H R := ⟨p, xs, a, j, rfl, rfl, h, e, q⟩
end

/-! built-in calls under names of their own -/
def rLenQ (K : PySem.W.Frag) : List V → Hp → VK → Prop := fun xs H Q => ∃ p ys, xs = [.ref p] ∧ (SqL K H p ys ∨ SqT K H p ys) ∧ Q (.int ys.length) H
def rIntQ : List V → Hp → VK → Prop := fun xs H Q => ∃ i, xs = [.int i] ∧ Q (.int i) H
def rAbsQ : List V → Hp → VK → Prop := fun xs H Q => ∃ i, xs = [.int i] ∧ Q (.int (if i < 0 then -i else i)) H
def rTupQ (K : PySem.W.Frag) : List V → Hp → VK → Prop := fun xs H Q => ∃ p ys, xs = [.ref p] ∧ SqL K H p ys ∧ ∀ l, H l = none → Q (.ref l) (upd H l (.tup ys))
def rLstQ (K : PySem.W.Frag) : List V → Hp → VK → Prop := fun xs H Q => ∃ p ys, xs = [.ref p] ∧ (SqL K H p ys ∨ SqT K H p ys) ∧ ∀ l, H l = none → Q (.ref l) (upd H l (.lst ys))
section
variable {X : Cx}
theorem call_lenQ : CallR X (.builtin "len") (rLenQ X.K) := call_len_seq
theorem call_intQ : CallR X (.type "int") rIntQ := fun pins s σ H xs us Q I r h => call_int1 pins s σ H xs us Q I r (.inl h)
theorem call_absQ : CallR X (.builtin "abs") rAbsQ := call_abs
theorem call_tupQ : CallR X (.type "tuple") (rTupQ X.K) := fun pins s σ H xs us Q I r h => call_tuple_of pins s σ H xs us Q I r (by
  obtain ⟨p, ys, e, h1, h2⟩ := h
  exact ⟨p, ys, e, .inl ⟨h1, h2⟩⟩)
theorem call_lstQ : CallR X (.type "list") (rLstQ X.K) := call_list_of
end
section
variable {H H1 H2 : Hp} {p a : Addr} {xs : List V} {K : PySem.W.Frag} {Q : VK} {o : HO} {A B : Prop} {b : Bool}


theorem rd_ixM {v : V} {i : Int} (h : H p = some (.lst xs)) (e : atI xs i = some v) (q : Q v H) : rIxL K (.ref p) (.int i) H Q := ⟨p, xs, i, v, rfl, rfl, SqL.of h, e, q⟩

theorem rd_lenT (h : H p = some (.tup xs)) (q : Q (.int xs.length) H) : rLenQ K [.ref p] H Q := ⟨p, xs, rfl, .inr (SqT.of h), q⟩
theorem rd_lenL (h : H p = some (.lst xs)) (q : Q (.int xs.length) H) : rLenQ K [.ref p] H Q := ⟨p, xs, rfl, .inl (SqL.of h), q⟩
theorem rd_intQ {i : Int} (q : Q (.int i) H) : rIntQ [.int i] H Q := ⟨i, rfl, q⟩
theorem rd_absQ {i : Int} (q : Q (.int (if i < 0 then -i else i)) H) : rAbsQ [.int i] H Q := ⟨i, rfl, q⟩
theorem rd_isiT {T : String} (h : H p = some (.tup xs)) (e : kitB "tuple" T = some b) (q : Q (.bl b) H) : rIsi K [.ref p, .ty T] H Q := ⟨_, _, _, _, b, rfl, .ty T, .base (.tup h), kit_ty e, q⟩
theorem rd_isiL {T : String} (h : H p = some (.lst xs)) (e : kitB "list" T = some b) (q : Q (.bl b) H) : rIsi K [.ref p, .ty T] H Q := ⟨_, _, _, _, b, rfl, .ty T, .base (.lst h), kit_ty e, q⟩
theorem rd_isiI {T : String} {i : Int} (e : kitB "int" T = some b) (q : Q (.bl b) H) : rIsi K [.int i, .ty T] H Q := ⟨_, _, _, _, b, rfl, .ty T, .base (.int i), kit_ty e, q⟩
theorem rd_isiB {T : String} {c : Bool} (e : kitB "bool" T = some b) (q : Q (.bl b) H) : rIsi K [.bl c, .ty T] H Q := ⟨_, _, _, _, b, rfl, .ty T, .base (.bl c), kit_ty e, q⟩
theorem kit_tt : kitB "tuple" "tuple" = some true := by decide +kernel
theorem kit_ll : kitB "list" "list" = some true := by decide +kernel
theorem kit_ii : kitB "int" "int" = some true := by decide +kernel
theorem kit_ib : kitB "int" "bool" = some false := by decide +kernel
theorem kit_bb : kitB "bool" "bool" = some true := by decide +kernel
theorem iteNT (h : B) : if (!true) = true then A else B := h
theorem iteD {c : Prop} [Decidable c] (hc : c) (h : A) : if decide c = true then A else B := by
  rw [decide_eq_true hc]
  exact iteT h
theorem iteE {c : Prop} [Decidable c] (hc : ¬ c) (h : B) : if decide c = true then A else B := by
  rw [decide_eq_false hc]
  exact iteF h
theorem back (S : Same H1 H2) (h : H1 p = some o) : H2 p = some o := S _ _ h
end

section
variable {σ : L2.St} {H : Hp} {K : PySem.W.Frag} {Q : VK} {tb te : TE} {D p : Addr} {xs : List V}
theorem rd_yes {QB : Bool → Hp → Prop} (q : QB true H) : tYes σ H QB := q

theorem rd_all {bs : List Bool} (h : H p = some (.lst (bs.map V.bl))) (q : Q (.bl (bs.all id)) H) : rAll K [.ref p] H Q := ⟨p, bs, rfl, SqL.of h, q⟩
/-- a list's append, the list an own one -/
theorem rd_app {y : V} (h : H p = some (.lst xs)) (hz : xs.length < 1000) (q : Q .non (upd H p (.lst (xs ++ [y])))) : rAppend (.ref p) [y] H Q := ⟨p, xs, y, rfl, rfl, h, small1000 (by omega), q⟩
theorem rd_BMv {t : TA} {i : Nat} {r : V → List V → Hp → VK → Prop} (hv : σ[i]? = some (some (.ref p))) (h : H p = some (.lst xs)) (q : t σ H fun vs H2 => r (.ref p) vs H2 Q) : tBM K "list" r (tVar i) t σ H Q :=
  ⟨.ref p, hv, .inl ⟨rfl, _, SqL.of h⟩, q⟩
end
/-! loops and comprehensions under names of their own -/
def Fr (J : It) (g : TG) (tb : TS) (D : Ends) (σ : L2.St) (H : Hp) : Prop :=
  ∃ W : Nat → Nat → L2.St → Hp → Prop, (∃ m, W 0 m σ H) ∧ ∀ i m σ H, W i m σ H →
    (J.stop i H ∧ D.nx σ H) ∨ (J.go i H ∧ ∃ N : L2.St → Hp → Prop, (∀ σ' H', N σ' H' → ∃ m', m' < m ∧ W (i + 1) m' σ' H') ∧ ∀ x H', J.yld i H x H' → g x σ H' fun σ2 H2 => tb { D with nx := N, ct := N, bk := D.nx } σ2 H2)
def Lc (J : It) (g : TG) (tt : TT) (te : TE) (vs : List Nat) (σ : L2.St) (H0 : Hp) (Q : VK) : Prop :=
  ∀ D, H0 D = none → ∃ W : Nat → Nat → Hp → Prop, (∃ m, W 0 m (upd H0 D (.lst []))) ∧ ∀ i m H, W i m H →
    (J.stop i H ∧ Q (.ref D) H) ∨ (J.go i H ∧ ∃ Nx : Hp → Prop, (∀ H', Nx H' → ∃ m', m' < m ∧ W (i + 1) m' H') ∧ ∀ x H', J.yld i H x H' → g x (wipe σ vs) H' fun σ2 H2 => wipe σ2 vs = wipe σ vs ∧ tt σ2 H2 fun b H3 =>
      if b = true then te σ2 H3 fun y H4 => ∃ acc, H4 D = some (.lst acc) ∧ acc.length < sizeLine ∧ Nx (upd H4 D (.lst (acc ++ [y]))) else Nx H3)
def ItT (K : PySem.W.Frag) (R : It → Hp → Prop) (x : V) (H : Hp) : Prop := ∃ a, x = .ref a ∧ (∃ xs, SqT K H a xs) ∧ R (Itt K a) H
def ItL (K : PySem.W.Frag) (R : It → Hp → Prop) (x : V) (H : Hp) : Prop := ∃ a, x = .ref a ∧ (∃ xs, SqL K H a xs) ∧ R (Itl K a) H
def Rg1 (R : It → Hp → Prop) (vs : List V) (H : Hp) : Prop := ∃ j : Int, vs = [.int j] ∧ -(2 ^ 62) ≤ j ∧ j < 2 ^ 62 ∧ R (Itr 0 j.toNat) H
section
variable {σ : L2.St} {H : Hp} {K : PySem.W.Frag} {Q : VK} {te : TE} {tr : TA} {p : Addr} {xs : List V} {wi : TI} {g : TG} {tt : TT} {vs : List Nat} {tb : TS} {D : Ends} {R : It → Hp → Prop}
theorem rd_for (q : wi σ H fun J H1 => Fr J g tb D σ H1) : tFor wi g tb D σ H := q
theorem rd_lc (q : wi σ H fun J H1 => Lc J g tt te vs σ H1 Q) : tLc wi g tt te vs σ H Q := q
theorem rd_iTup (q : te σ H fun x H1 => ItT K R x H1) : iTup K te σ H R := q
theorem rd_iList (q : te σ H fun x H1 => ItL K R x H1) : iList K te σ H R := q
theorem rd_iRg1 (q : tr σ H fun vs H1 => Rg1 R vs H1) : iRng1 tr σ H R := q
theorem rd_ItT (h : H p = some (.tup xs)) (q : R (Itt K p) H) : ItT K R (.ref p) H := ⟨p, rfl, ⟨xs, SqT.of h⟩, q⟩
theorem rd_ItL (h : H p = some (.lst xs)) (q : R (Itl K p) H) : ItL K R (.ref p) H := ⟨p, rfl, ⟨xs, SqL.of h⟩, q⟩
theorem rd_Rg1 {j : Int} (h : -100000 ≤ j ∧ j ≤ 100000) (q : R (Itr 0 j.toNat) H) : Rg1 R [.int j] H := ⟨j, rfl, by omega, by omega, q⟩
end
theorem fr_it {J : It} {n : Nat} {G : Hp → Prop} {Y : Nat → Hp → V → Hp → Prop} (w : Walk J n G Y) {g : TG} {tb : TS} {D : Ends} {σ : L2.St} {H : Hp} (Pv : Nat → L2.St → Hp → Prop) (h0 : Pv 0 σ H) (hG : ∀ i σ H, i ≤ n → Pv i σ H → G H)
    (hs : ∀ i x σ H H', i < n → Pv i σ H → Y i H x H' → g x σ H' fun σ2 H2 => tb { D with nx := Pv (i + 1), ct := Pv (i + 1), bk := D.nx } σ2 H2) (hd : ∀ σ H, Pv n σ H → D.nx σ H) : Fr J g tb D σ H := for_it w Pv h0 hG hs hd
theorem fr_rng {lo : Int} {n : Nat} {g : TG} {tb : TS} {D : Ends} {σ : L2.St} {H : Hp} (Pv : Nat → L2.St → Hp → Prop) (h0 : Pv 0 σ H)
    (hs : ∀ i σ H, i < n → Pv i σ H → g (.int (lo + i)) σ H fun σ2 H2 => tb { D with nx := Pv (i + 1), ct := Pv (i + 1), bk := D.nx } σ2 H2) (hd : ∀ σ H, Pv n σ H → D.nx σ H) : Fr (Itr lo n) g tb D σ H := for_range Pv h0 hs hd
/-- a comprehension whose items are told beforehand: ys -/
theorem lc_map {J : It} {n : Nat} {G : Hp → Prop} {Y : Nat → Hp → V → Hp → Prop} (w : Walk J n G Y) {g : TG} {tt : TT} {te : TE} {vs : List Nat} {σ : L2.St} {H0 : Hp} {Q : VK} (ys : List V) (hn : ys.length = n) (sm : n ≤ 1000)
    (hG : ∀ H, Same H0 H → G H)
    (hs : ∀ i x H H' (Qc : VK) (R : Hp → Prop), i < n → Same H0 H → Y i H x H' → (∀ y H4, Same H H4 → ys[i]? = some y → Qc y H4) →
      g x (wipe σ vs) H' fun σ2 H2 => wipe σ2 vs = wipe σ vs ∧ tt σ2 H2 fun b H3 => if b = true then te σ2 H3 Qc else R H3)
    (hd : ∀ H D, Same H0 H → H0 D = none → H D = some (.lst ys) → Q (.ref D) H) : Lc J g tt te vs σ H0 Q := fun D nD =>
  lc_it w (Qd := fun H => Q (.ref D) H) (fun i H => Same H0 H ∧ H D = some (.lst (ys.take i))) ⟨fun a o e => by rw [upd_ne (ne_of_none e nD)]; exact e, upd_same⟩ (fun i H _ p => hG H p.1)
    (fun i x H H' hi p y => hs i x H H' _ _ hi p.1 y fun z H4 S ez => by
      refine ⟨ys.take i, S _ _ p.2, small1000 (by rw [List.length_take]; omega), fun a o e => ?_, ?_⟩
      · rw [upd_ne (ne_of_none e nD)]
        exact S _ _ (p.1 _ _ e)
      · rw [upd_same, List.take_add_one, ez]
        rfl)
    (fun H p => hd H D p.1 nD (by rw [p.2, List.take_of_length_le (by omega)]))
theorem fr_rng0 {n : Nat} {g : TG} {tb : TS} {D : Ends} {σ : L2.St} {H : Hp} (Pv : Nat → L2.St → Hp → Prop) (h0 : Pv 0 σ H)
    (hs : ∀ (i : Nat) σ H, i < n → Pv i σ H → g (.int (i : Int)) σ H fun σ2 H2 => tb { D with nx := Pv (i + 1), ct := Pv (i + 1), bk := D.nx } σ2 H2) (hd : ∀ σ H, Pv n σ H → D.nx σ H) : Fr (Itr 0 n) g tb D σ H :=
  for_range Pv h0 (fun i σ H hi p => by
    have q := hs i σ H hi p
    rw [← Int.zero_add (i : Int)] at q
    exact q) hd
theorem rd_sl {r : V → Option Int → Option Int → Hp → VK → Prop} {te : TE} {tl th : TO} {σ : L2.St} {H : Hp} {Q : VK} (q : te σ H fun x H1 => tl σ H1 fun l H2 => th σ H2 fun u H3 => r x l u H3 Q) : tSl r te tl th σ H Q := q
theorem rd_noP {σ : L2.St} {H : Hp} {QO : Option Int → Hp → Prop} (q : QO none H) : tNoPart σ H QO := q
theorem rd_part {t : TE} {σ : L2.St} {H : Hp} {QO : Option Int → Hp → Prop} (q : t σ H fun x H1 => ∃ i, x = .int i ∧ QO (some i) H1) : tPart t σ H QO := q
theorem rd_i {i : Int} {P : Int → Prop} (q : P i) : ∃ k, V.int i = V.int k ∧ P k := ⟨i, rfl, q⟩
theorem rd_slL {K : PySem.W.Frag} {p : Addr} {xs : List V} {lo hi : Option Int} {H : Hp} {Q : VK} (h : SqL K H p xs) (q : ∀ l, H l = none → Q (.ref l) (upd H l (.lst (cutV xs lo hi)))) : rSlL K (.ref p) lo hi H Q := ⟨p, xs, rfl, h, q⟩
/-- a comprehension over a range -/
theorem walk_rng {n : Nat} : Walk (Itr 0 n) n (fun _ => True) (fun i H x H' => H' = H ∧ x = .int (i : Nat)) :=
  (walk_range (lo := 0)).mono (fun _ _ => trivial) fun i H x H' _ _ y => ⟨y.1, by rw [y.2]; show V.int (0 + (i : Int)) = _; rw [Int.zero_add]⟩
theorem new_gen {H : Hp} {p : Addr} (o : HO) (np : H p = none) : ∃ H', H' = upd H p o ∧ Same H H' ∧ H' p = some o := ⟨_, rfl, fun a u e => by rw [upd_ne (ne_of_none e np)]; exact e, upd_same⟩
theorem len1000 {xs : List V} (h : xs.length ≤ 1000) : xs.length ≤ sizeLine := Nat.le_of_lt (small1000 h)
theorem same_new {H0 H : Hp} {p : Addr} {o : HO} (S : Same H0 H) (np : H p = none) : Same H0 (upd H p o) := fun a u e => by
  have e2 := S a u e
  rw [upd_ne (ne_of_none e2 np)]
  exact e2
theorem same_mut {H0 H : Hp} {p : Addr} {o : HO} (S : Same H0 H) (np : H0 p = none) : Same H0 (upd H p o) := fun a u e => by
  rw [upd_ne (ne_of_none e np)]
  exact S a u e
theorem atI_int {α : Type} {xs : List α} {a : Int} (h0 : 0 ≤ a) (h1 : a < xs.length) : ∃ v, atI xs a = some v ∧ xs[a.toNat]? = some v ∧ v ∈ xs := by
  have hj : a.toNat < xs.length := by omega
  refine ⟨xs[a.toNat], ?_, List.getElem?_eq_getElem hj, List.getElem_mem hj⟩
  have e : a = ((a.toNat : Nat) : Int) := by omega
  have q := atI_nat (xs := xs) (j := a.toNat) (List.getElem?_eq_getElem hj)
  rw [← e] at q
  exact q
theorem atI_get {α : Type} {xs : List α} {j : Nat} (h : j < xs.length) : atI xs (j : Int) = some xs[j] := atI_nat (List.getElem?_eq_getElem h)
theorem fmod_in {a m : Int} (h : 0 < m) : 0 ≤ a.fmod m ∧ a.fmod m < m := by
  rw [Int.fmod_eq_emod_of_nonneg _ (by omega)]
  exact ⟨Int.emod_nonneg _ (by omega), Int.emod_lt_of_pos _ h⟩
/-! the bag of draws: at c the script's cells, at b [cells, place, buffer, seed, count] -/
section
variable {c b p a : Addr} {ns : List Int} {H0 H H1 H2 : Hp} {o : HO} {xs : List V}
end
/-! a list of ints against the empty list -/
theorem dp_ints {K : PySem.W.Frag} {H : Hp} : ∀ fs : List Int, DpAll K H (fs.map V.int) (fs.map PyData.int)
  | [] => .nil
  | x :: r => .cons (.int x) (dp_ints r)
theorem lay_ints : ∀ fs : List Int, PyData.canLayAll0 (fs.map PyData.int) = true ∧ PyData.depthAll (fs.map PyData.int) = 0
  | [] => ⟨rfl, rfl⟩
  | x :: r => by
    obtain ⟨h1, h2⟩ := lay_ints r
    constructor
    · show (PyData.canLay0 (.int x) && PyData.canLayAll0 (r.map PyData.int)) = true
      rw [h1]
      rfl
    · show max (PyData.depth (.int x)) (PyData.depthAll (r.map PyData.int)) = 0
      rw [h2]
      rfl
/-! further walks -/
section
variable {σ : L2.St} {H : Hp} {K : PySem.W.Frag} {Q : VK} {te : TE} {tr : TA} {p p2 : Addr} {xs ys : List V} {R : It → Hp → Prop}
theorem rd_inT {x : V} (h : H p = some (.tup xs)) (fx : flatV x = true) (fs : xs.all flatV = true) (q : Q (.bl (inV x xs)) H) : rIn K false x (.ref p) H Q := ⟨p, xs, rfl, .inr (SqT.of h), fx, fs, q⟩
end
end Rv
/-! the mathematics of lines over looks -/
namespace Rv
open PySem PySem.Spec PyProof.Rows L2
def txt (cs : List Nat) : Str := ⟨cs.toArray⟩
def Sign (c : Nat) : Prop := c = 46 ∨ c = 42 ∨ c = 45 ∨ (48 ≤ c ∧ c ≤ 57)
/-- a row's words -/
def sCopy : Str := Str.ofString "copy"
def sMove : Str := Str.ofString "move"
def sClear : Str := Str.ofString "clear"
structure Ln where
  w : Str
  t : Int
  o : Int
  g : List Nat
def Ln.vals (r : Ln) : List V := [.str r.w, .int r.t, .int r.o, .str (txt r.g)]
structure LnOk (n : Nat) (r : Ln) : Prop where
  t0 : 0 ≤ r.t
  t1 : r.t < n
  word : (r.w = sClear ∧ r.o = -1) ∨ ((r.w = sCopy ∨ r.w = sMove) ∧ 0 ≤ r.o ∧ r.o < n ∧ r.o ≠ r.t)
  gl : r.g = [] ∨ r.g.length = n
  gs : ∀ c ∈ r.g, Sign c
end Rv
/-! lines one behind the other; twice is once; lists of tuples in a heap -/
namespace Rv
open PySem PySem.Spec PyProof.Rows L2
/-! lists of tuples -/
def TupsAt (H : Hp) (ps : List Addr) (vss : List (List V)) : Prop := ps.length = vss.length ∧ ∀ (i : Nat) (vs : List V), vss[i]? = some vs → ∃ p, ps[i]? = some p ∧ H p = some (.tup vs)
section
variable {H H' : Hp} {ps : List Addr} {vss : List (List V)} {p : Addr} {vs : List V} {c b : Addr} {ns : List Int}
theorem TupsAt.nil : TupsAt H [] [] := ⟨rfl, fun i vs e => by simp at e⟩
theorem TupsAt.get (h : TupsAt H ps vss) {i : Nat} (hi : i < vss.length) : ∃ p, ps[i]? = some p ∧ H p = some (.tup vss[i]) := h.2 i _ (List.getElem?_eq_getElem hi)
end
end Rv
/-! flows; texts repeated; lists of lines compared -/
namespace Rv
open PySem PySem.Spec PyProof.Rows L2
def own (n : Nat) : List Int := (List.range n).map fun (i : Nat) => (i : Int)
theorem own_len (n : Nat) : (own n).length = n := by simp [own]
/-- slices -/
theorem cut_to {xs : List V} {k : Nat} (h : k ≤ xs.length) : cutV xs none (some (k : Int)) = xs.take k := by
  unfold cutV
  rw [HT.sIx_none, HT.sIx_nat, Nat.min_eq_left h, List.drop_zero, Nat.sub_zero]
theorem cut_from {xs : List V} {k : Nat} (h : k ≤ xs.length) : cutV xs (some (k : Int)) none = xs.drop k := by
  unfold cutV
  rw [HT.sIx_none, HT.sIx_nat, Nat.min_eq_left h]
  exact List.take_of_length_le (by rw [List.length_drop]; exact Nat.le_refl _)
/-! deep comparisons -/
end Rv
/-! the match statement: patterns of texts, names and sequences over lists -/
namespace Rv
open PySem PySem.Spec PyProof.Rows L2
abbrev Bs := List (Nat × V)
abbrev TP := V → Hp → (Option Bs → Hp → Prop) → Prop
abbrev TPs := List V → Hp → (Option Bs → Hp → Prop) → Prop
def Nm (X : Cx) (i : Nat) (n : Str) : Prop := X.N[i]? = some n ∧ Loc X.env.scope n ∧ (X.fn n = true ∨ X.env.scope.names.lookup n = some .local)
inductive BsR (X : Cx) : Bs → List (Str × Value) → Prop where
  | nil : BsR X [] []
  | cons {i : Nat} {v : V} {n : Str} {u : Value} {b : Bs} {c : List (Str × Value)} (h : Nm X i n) (r : RelV v u) (t : BsR X b c) : BsR X ((i, v) :: b) ((n, u) :: c)
section
variable {X : Cx}
end
/-! steps of these readings -/
section
variable {σ : L2.St} {H : Hp} {K : PySem.W.Frag} {te : TE} {tc tr : TC} {D : Ends} {tp : TP} {ts : TPs} {tg : TT} {tb : TS} {v : V} {Q : Option Bs → Hp → Prop} {a : Addr} {xs : List V} {n : Nat} {r : List V}
end
end Rv
/-! texts of lines: words, numbers, what is read -/
namespace Rv
open PySem PySem.Spec PyProof.Rows L2
/-! rules under names of their own -/
def rIsNQ : R2 := fun x y H Q => y = .non ∧ Q (.bl (decide (x = .non))) H
def tTruQ (K : PySem.W.Frag) (ta : TE) : TT := fun σ H Q => ta σ H fun x H' => ∃ k, TruV K x H' k ∧ Q k H'
section
variable {X : Cx}
theorem op_isNQ : OpR X (compareOp .Is) rIsNQ := op_isN
theorem pt_truQ {a : Expr} {ta : TE} (ha : PE X a ta) (he : ∀ whole, isTrue a X.env whole = (do let v ← whole; standAt a.pos; holding [v] (truthy v))) : PT X a (tTruQ X.K ta) := pt_truth ha he
end
section
variable {σ : L2.St} {H : Hp} {K : PySem.W.Frag} {Q : VK} {te to : TE} {ts : List TE} {a b acc : List Nat} {p : Addr} {xs : List V} {QB : Bool → Hp → Prop}
theorem rd_isN {v : V} (q : Q (.bl (decide (v = .non))) H) : rIsNQ v .non H Q := ⟨rfl, q⟩
end
/-! the numbers of blocks, written -/
def NUMS : List (List Nat) := (List.range 12).map TL.numL
/-! what is read -/
def wClear : List Nat := [99, 108, 101, 97, 114]
def wCopy : List Nat := [99, 111, 112, 121]
def wMove : List Nat := [109, 111, 118, 101]
def wArr : List Nat := [60, 45]
def wIf : List Nat := [105, 102]
def isSg (c : Nat) : Bool := decide (c ∈ [46, 42, 45, 48, 49, 50, 51, 52, 53, 54, 55, 56, 57])
def readW (ws : List (List Nat)) (g : List Nat) : Option Ln :=
  match ws with
  | [a, t] => if a = wClear ∧ t ∈ NUMS then some ⟨sClear, ((NumText.digitsVal t : Nat) : Int), -1, g⟩ else none
  | [a, t, x, s] => if x = wArr ∧ ((a = wCopy ∨ a = wMove) ∧ t ≠ s) ∧ (t ∈ NUMS ∧ s ∈ NUMS) then some ⟨txt a, ((NumText.digitsVal t : Nat) : Int), ((NumText.digitsVal s : Nat) : Int), g⟩ else none
  | _ => none
def isIf (ws : List (List Nat)) : Bool := decide (2 ≤ ws.length ∧ ws.getD (ws.length - 2) [] = wIf)
def readL (row : List Nat) : Option Ln :=
  let ws := TL.spl [32] 0 [] row
  if isIf ws = true then
    (if (1 ≤ (ws.getLastD []).length ∧ (ws.getLastD []).length ≤ 12) ∧ (ws.getLastD []).all isSg = true then readW (ws.take (ws.length - 2)) (ws.getLastD []) else none)
  else readW ws []
/-! deep comparisons of lines that are read -/
end Rv
/-! own errors: made, raised, caught, asked -/
namespace Rv
open PySem PySem.Spec PyProof.Rows L2
/-- what stands at the top under a name, if it is an object -/
def atTop (K : PySem.W.Frag) (x : Str) : Addr := match PySem.W.nsIn K mainGlobals x with
  | some (some (.ref a)) => a
  | _ => 0
theorem atTop_of {K : PySem.W.Frag} {x : Str} {a : Addr} (h : PySem.W.nsIn K mainGlobals x = some (some (.ref a))) : atTop K x = a := by
  unfold atTop
  rw [h]
theorem kit_refF {K : PySem.W.Frag} {S T : Addr} (h2 : PySem.W.isClsIn K T = true) (h3 : PySem.W.typeIn K (.ref T) = some (.type "type")) (h4 : PySem.W.subIn K (.ref S) (.ref T) = some false) (h5 : PySem.W.subIn K (.ref S) (.ref S) = some true) :
    PySem.W.kitOne K (.ref S) (.ref T) = some false := by
  have ne : (Value.ref S == Value.ref T) = false := by
    refine Bool.eq_false_iff.mpr fun q => ?_
    have e : S = T := Value.ref.inj (beq_iff_eq.mp q)
    rw [← e, h5] at h4
    cases h4
  have e2 : ((PySem.W.clsIn K T).isSome && PySem.W.typeIn K (.ref T) == some (.type "type")) = true := by
    have h2' : (PySem.W.clsIn K T).isSome = true := h2
    rw [h2', h3] <;> rfl
  show (if (Value.ref S == Value.ref T) = true then some true else if ((PySem.W.clsIn K T).isSome && PySem.W.typeIn K (.ref T) == some (.type "type")) = true then PySem.W.subIn K (.ref S) (.ref T) else none) = some false
  rw [ne, if_neg Bool.false_ne_true, if_pos e2]
  exact h4
section
variable {X : Cx} {x n : Str} {c : Value} {i : Nat} {body suite : List Stmt} {b₀ : Stmt} {np pos pos' : Pos}
end
section
variable {σ : L2.St} {H : Hp} {K : PySem.W.Frag} {D : Ends} {Q : VK} {tb : WX → TS} {ts : Addr → Value → Option Addr → TS} {c : Value} {i : Nat} {W : WX} {ta : TA} {C a : Addr} {cls : Value} {d : Option Addr} {f : Str} {te : TE}
end
end Rv
/-! texts that may be wrong: what is read of them, line by line -/
namespace Rv
open PySem PySem.Spec PyProof.Rows L2
/-- the lines rs are read ahead of the first wrong one -/
structure Front (body : List (List Nat)) (rs : List Ln) : Prop where
  le : rs.length ≤ body.length
  m60 : rs.length ≤ 60
  at_ : ∀ (i : Nat) (h : i < rs.length), readL (body[i]'(by omega)) = some rs[i]
theorem Front.nil {body : List (List Nat)} : Front body [] := ⟨Nat.zero_le _, Nat.zero_le _, fun i h => absurd h (Nat.not_lt_zero _)⟩
/-! rules of their own names, for texts that are bent -/
section
variable {σ : L2.St} {H : Hp} {K : PySem.W.Frag} {Q : VK} {te to : TE} {a b : List Nat} {p p2 : Addr} {xs ys : List V}
end
/-- words that are bounded: how many, how long in all, plain signs -/
structure Wb (n t : Nat) (ws : List (List Nat)) : Prop where
  n : ws.length ≤ n
  t : ws.flatten.length ≤ t
  c : ∀ w ∈ ws, ∀ c ∈ w, c < 128
theorem Wb.len {n t : Nat} {a : List (List Nat)} (h : Wb n t a) : ∀ w ∈ a, w.length ≤ t := fun w hw => by
  have : w.length ≤ a.flatten.length := by
    obtain ⟨i, hi, rfl⟩ := List.mem_iff_getElem.mp hw
    clear h hw
    induction a generalizing i with
    | nil => exact absurd hi (Nat.not_lt_zero _)
    | cons x r ih =>
      rw [List.flatten_cons, List.length_append]
      cases i with
      | zero => show x.length ≤ _; omega
      | succ i => have := ih i (by simpa using hi); simp only [List.getElem_cons_succ]; omega
  exact Nat.le_trans this h.t
end Rv
/-! boxes of draws of any make; pairs; calls with defaults, with a star; several named clauses -/
namespace Rv
open PySem PySem.Spec PyProof.Rows L2
/-- a box of draws: where it is, what of it changes, what it rests on -/
structure Box where
  b : Addr
  m : List Addr
  fp : List Addr
  I : Hp → Prop
  sub : ∀ a ∈ m, a ∈ fp
  live : ∀ H, I H → ∀ a ∈ fp, ∃ xs, H a = some (.lst xs)
  frame : ∀ H H', I H → (∀ a ∈ fp, H' a = H a) → I H'
structure Wg (B : Box) (H0 H : Hp) : Prop where
  keep : ∀ a o, a ∉ B.m → H0 a = some o → H a = some o
  i0 : B.I H0
  i1 : B.I H
section
variable {B : Box} {p a : Addr} {H0 H H1 H2 : Hp} {o : HO} {xs : List V}
theorem Box.ne (i : B.I H) (np : H p = none) : p ∉ B.fp := fun h => by
  obtain ⟨ys, e⟩ := B.live _ i p h
  rw [np] at e
  cases e
theorem Box.nem (i : B.I H) (np : H p = none) : p ∉ B.m := fun h => B.ne i np (B.sub _ h)
theorem Box.tupm (i : B.I H) (h : H p = some (.tup xs)) : p ∉ B.m := fun k => by
  obtain ⟨ys, e⟩ := B.live _ i p (B.sub _ k)
  rw [h] at e
  cases e
theorem Box.upd (i : B.I H) (n : p ∉ B.fp) : B.I (upd H p o) := B.frame _ _ i fun a ha => upd_ne fun e => n (e ▸ ha)
theorem Box.same (i : B.I H) (S : Same H H1) : B.I H1 := B.frame _ _ i fun a ha => by
  obtain ⟨ys, e⟩ := B.live _ i a ha
  rw [e]
  exact S _ _ e
theorem Wg.refl (i : B.I H) : Wg B H H := ⟨fun _ _ _ h => h, i, i⟩
theorem Wg.trans (w : Wg B H0 H1) (w2 : Wg B H1 H2) : Wg B H0 H2 := ⟨fun a o n h => w2.keep a o n (w.keep a o n h), w.i0, w2.i1⟩
theorem Wg.ofSame (i : B.I H) (S : Same H H1) : Wg B H H1 := ⟨fun a o _ h => S a o h, i, B.same i S⟩
theorem Wg.same (w : Wg B H0 H1) (S : Same H1 H2) : Wg B H0 H2 := w.trans (.ofSame w.i1 S)
theorem Wg.free (w : Wg B H0 H) (np : H p = none) : H0 p = none := by
  cases e : H0 p with
  | none => rfl
  | some o =>
    have n := B.nem w.i1 np
    rw [w.keep p o n e] at np
    cases np
theorem Wg.tup (w : Wg B H0 H) (h : H0 a = some (.tup xs)) : H a = some (.tup xs) := w.keep a _ (B.tupm w.i0 h) h
theorem Wg.lst (w : Wg B H0 H) (n : a ∉ B.m) (h : H0 a = some o) : H a = some o := w.keep a o n h
theorem Wg.mut (w : Wg B H0 H) (np : H0 p = none) : Wg B H0 (upd H p o) :=
  ⟨fun a u n h => by rw [upd_ne (ne_of_none h np)]; exact w.keep a u n h, w.i0, B.upd w.i1 (B.ne w.i0 np)⟩
end
/-- the tuples stay -/
def Kt (H H' : Hp) : Prop := ∀ a xs, H a = some (.tup xs) → H' a = some (.tup xs)
section
variable {B : Box} {p a : Addr} {H0 H H1 H2 : Hp} {o : HO} {xs : List V}
theorem Kt.same (S : Same H H1) : Kt H H1 := fun a xs h => S _ _ h
theorem Kt.wg (w : Wg B H H1) : Kt H H1 := fun a xs h => w.tup h
theorem Kt.mut (h : H p = some (.lst xs)) : Kt H (upd H p o) := fun a ys e => by
  rw [upd_ne (ne_of e h (by intro z; cases z))]
  exact e
theorem Kt.new (h : H p = none) : Kt H (upd H p o) := fun a ys e => by
  rw [upd_ne (ne_of_none e h)]
  exact e
end
/-! pairs -/
def pv (p : Int × Int) : List V := [.int p.1, .int p.2]
structure PairOk (n : Nat) (p : Int × Int) : Prop where
  t0 : 0 ≤ p.1
  t1 : p.1 < n
  s0 : 0 ≤ p.2
  s1 : p.2 < n
  ne : p.1 ≠ p.2
def pvs (ps : List (Int × Int)) : List (List V) := ps.map pv
theorem pvs_len (ps : List (Int × Int)) : (pvs ps).length = ps.length := by simp [pvs]
/-! calls -/
/-- a def with one default, None -/
structure DefD (K : PySem.W.Frag) (mg : Str → Option Value) (x : Str) (st : Stmt) (ps : List Str) (f : Addr) (fd : FuncData) : Prop where
  F : FunD K x x (defArgs st) (defBody st) (defScope st) [.non] [] f fd
  b : Binds K fd ps []
  b1 : ∃ ds, Vals [V.non] ds ∧ Binds K fd ps ds
  g : mg x = some (.ref f)
/-- a def whose only parameter is starred -/
structure DefS (K : PySem.W.Frag) (mg : Str → Option Value) (x : Str) (st : Stmt) (f : Addr) (fd : FuncData) : Prop where
  F : Fun K x x st f fd
  g : mg x = some (.ref f)
section
variable {X : Cx} {k : Nat} {f : Addr} {sp : Sp} {x : Str} {p pos : Pos} {e : Expr} {es : List Expr} {t : TA} {CX : CXT} {E : XK}
end
end Rv
/-! several except clauses, each with a name of its own -/
namespace Rv
open PySem PySem.Spec PyProof.Rows L2
abbrev Suite := Addr → Value → Option Addr → TS
/-- the clauses of the text, each with its rule -/
inductive ClOk (X : Cx) : List ExceptHandler → List (Value × Nat × Suite) → Prop
  | nil {hs : List ExceptHandler} : ClOk X hs []
  | cons {x n : Str} {c : Value} {i : Nat} {ts : Suite} {b : Stmt} {bs : List Stmt} {np p : Pos} {hs : List ExceptHandler} {l : List (Value × Nat × Suite)} (hc : Names X x c) (hi : X.N[i]? = some n) (hn : X.env.kindOf n = some .local)
      (su : ∀ (a : Addr) (o : Obj) (q : Value) (d : Option Addr) (pn : List (Addr × Obj)), Zc q d o → (∃ vs, o.data = .fields vs) → PSs (X.suite a ((a, o) :: pn)) (b :: bs) (ts a q d)) (r : ClOk X hs l) :
      ClOk X (.ExceptHandler (some (.Name x np)) (some n) (b :: bs) p :: hs) ((c, i, ts) :: l)
section
variable {X : Cx} {pins : List (Addr × Obj)} {σ : L2.St} {H : Hp} {s s' : Shared} {a : Addr} {G h3 : Heap} {D : Ends} {q : Value} {d : Option Addr}
end
end Rv
/-! more steps of a reading; data at any depth; items that may be no lines; copy logs -/
namespace Rv
open PySem PySem.Spec PyProof.Rows L2
/-! methods of lists -/
def rPopQ : V → List V → Hp → VK → Prop := fun x vs H Q => ∃ (l : Addr) (xs : List V) (k : Nat) (y : V), x = .ref l ∧ vs = [.int (k : Int)] ∧ H l = some (.lst xs) ∧ xs[k]? = some y ∧ k ≤ 1000 ∧ Q y (upd H l (.lst (xs.eraseIdx k)))
theorem mt_popQ {X : Cx} : MtM X "list.pop" rPopQ := fun pins s σ H x xs v us Q I rx rs h => by
  obtain ⟨l, ys, k, y, rfl, rfl, e, h1, h2, q⟩ := h
  have hk : k < ys.length := by
    by_cases z : k < ys.length
    · exact z
    · rw [List.getElem?_eq_none (by omega)] at h1
      cases h1
  refine mt_popAt pins s σ H _ _ v us Q I rx rs ⟨l, ys, (k : Int), k, y, rfl, rfl, e, by omega, by omega, ?_, h1, q⟩
  unfold seqIndex?
  have e1 : (if (k : Int) < 0 then (k : Int) + (ys.length : Int) else (k : Int)) = (k : Int) := if_neg (by omega)
  show (if (decide (0 ≤ (if (k : Int) < 0 then (k : Int) + (ys.length : Int) else (k : Int))) && decide ((if (k : Int) < 0 then (k : Int) + (ys.length : Int) else (k : Int)) < (ys.length : Int))) = true then _ else _) = _
  rw [e1, if_pos (by rw [Bool.and_eq_true]; exact ⟨decide_eq_true (by omega), decide_eq_true (by omega)⟩), Int.toNat_natCast]
section
variable {σ : L2.St} {H : Hp} {K : PySem.W.Frag} {Q : VK} {te : TE} {tr : TA} {p p2 l : Addr} {xs ys : List V} {R : It → Hp → Prop} {y : V} {k : Nat} {QB : Bool → Hp → Prop}
theorem rd_popQ (h : H l = some (.lst xs)) (e : xs[k]? = some y) (hk : k ≤ 1000) (q : Q y (upd H l (.lst (xs.eraseIdx k)))) : rPopQ (.ref l) [.int (k : Int)] H Q := ⟨l, xs, k, y, rfl, rfl, h, e, hk, q⟩
def Rg2 (R : It → Hp → Prop) (vs : List V) (H : Hp) : Prop := ∃ i j : Int, vs = [.int i, .int j] ∧ (-(2 ^ 62) ≤ i ∧ i < 2 ^ 62 ∧ -(2 ^ 62) ≤ j ∧ j < 2 ^ 62) ∧ R (Itr i (j - i).toNat) H
theorem rd_iRg2 (q : tr σ H fun vs H1 => Rg2 R vs H1) : iRng2 tr σ H R := q
theorem rd_Rg2 {i j : Int} (h : -100000 ≤ i ∧ i ≤ 100000 ∧ -100000 ≤ j ∧ j ≤ 100000) (q : R (Itr i (j - i).toNat) H) : Rg2 R [.int i, .int j] H := ⟨i, j, rfl, by omega, q⟩
theorem rd_catL {xs ys : List V} (h : H p = some (.lst xs)) (h2 : H p2 = some (.lst ys)) (hl : xs.length + ys.length ≤ 1000) (q : ∀ l, H l = none → Q (.ref l) (upd H l (.lst (xs ++ ys)))) : rCat (.ref p) (.ref p2) H Q := ⟨p, p2, xs, ys, rfl, rfl, h, h2, Nat.le_of_lt (small1000 (by omega)), q⟩
end
theorem inV_ints {k : Int} {ns : List Int} : inV (.int k) (ns.map V.int) = decide (k ∈ ns) := by
  unfold inV
  rw [List.any_map]
  have e : ((fun y => eqV y (.int k)) ∘ V.int) = fun n : Int => n == k := by
    funext n
    rfl
  rw [e, Bool.eq_iff_iff, List.any_eq_true, decide_eq_true_eq]
  exact ⟨fun ⟨x, h1, h2⟩ => by rw [← beq_iff_eq.mp h2]; exact h1, fun h => ⟨k, h, beq_self_eq_true _⟩⟩
/-! data at any depth -/
structure Sh (k : Nat) (d : PyData) : Prop where
  l : PyData.canLay0 d = true
  d : PyData.depth d ≤ k
theorem Sh.int {k : Nat} (i : Int) : Sh k (.int i) := ⟨rfl, Nat.zero_le _⟩
theorem Sh.non {k : Nat} : Sh k .none := ⟨rfl, Nat.zero_le _⟩
theorem Sh.bool {k : Nat} (b : Bool) : Sh k (.bool b) := ⟨rfl, Nat.zero_le _⟩
theorem Sh.all {k : Nat} : ∀ {ds : List PyData}, (∀ d ∈ ds, Sh k d) → PyData.canLayAll0 ds = true ∧ PyData.depthAll ds ≤ k
  | [], _ => ⟨rfl, Nat.zero_le _⟩
  | d :: r, h => by
    obtain ⟨a1, a2⟩ := h d (List.mem_cons_self ..)
    obtain ⟨b1, b2⟩ := Sh.all fun e he => h e (List.mem_cons_of_mem _ he)
    constructor
    · show (PyData.canLay0 d && PyData.canLayAll0 r) = true
      rw [a1, b1]
      rfl
    · show max (PyData.depth d) (PyData.depthAll r) ≤ k
      omega
theorem Sh.tuple {k : Nat} {ds : List PyData} (h : ∀ d ∈ ds, Sh k d) : Sh (k + 1) (.tuple ds) := ⟨(Sh.all h).1, Nat.succ_le_succ (Sh.all h).2⟩
theorem Sh.list {k : Nat} {ds : List PyData} (h : ∀ d ∈ ds, Sh k d) : Sh (k + 1) (.list ds) := ⟨(Sh.all h).1, Nat.succ_le_succ (Sh.all h).2⟩
theorem Sh.shaped {d : PyData} {k : Nat} (h : Sh k d) (hk : k ≤ 64) : SeqAt.shaped d = true := by
  unfold SeqAt.shaped
  rw [Bool.and_eq_true]
  exact ⟨h.l, decide_eq_true (Nat.le_trans h.d hk)⟩
theorem rd_ned {K : PySem.W.Frag} {H : Hp} {Q : VK} {x y : V} {d : PyData} {k : Nat} (h : Dp K H x d) (h2 : Dp K H y d) (s : Sh k d) (hk : k ≤ 64 := by decide) (q : Q (.bl false) H) : rNeD K x y H Q :=
  ⟨d, d, h, h2, s.shaped hk, s.shaped hk, by rw [SeqAt.eqv_refl _ s.l]; exact q⟩
/-! what may stand in a script -/
inductive Im where
  | tup (xs : List V)
  | lst (xs : List V)
  | non
def ImAt (M : List Addr) (H : Hp) (v : V) : Im → Prop
  | .tup xs => ∃ p, v = .ref p ∧ H p = some (.tup xs)
  | .lst xs => ∃ p, v = .ref p ∧ p ∉ M ∧ H p = some (.lst xs)
  | .non => v = .non
structure ImsAt (M : List Addr) (H : Hp) (vs : List V) (is : List Im) : Prop where
  len : vs.length = is.length
  at_ : ∀ (i : Nat) (it : Im), is[i]? = some it → ∃ v, vs[i]? = some v ∧ ImAt M H v it
/-- four fields: a word, two numbers, a text -/
def Wf : Im → Prop
  | .tup xs => xs.length = 4 → ∃ r : Ln, xs = r.vals ∧ r.g.length ≤ 1000
  | _ => True
def Good (n : Nat) (it : Im) : Prop := ∃ r : Ln, it = .tup r.vals ∧ LnOk n r
/-! scripts that are right, and those that are not -/
/-- a plain copy -/
def Plain (r : Ln) : Prop := r.w = sCopy ∧ r.g = []
def cl (p : Int × Int) : Ln := ⟨sCopy, p.1, p.2, []⟩
theorem PairOk.ln {n : Nat} {p : Int × Int} (h : PairOk n p) : LnOk n (cl p) := ⟨h.t0, h.t1, .inr ⟨.inl rfl, h.s0, h.s1, h.ne.symm⟩, .inl rfl, fun c hc => absurd hc List.not_mem_nil⟩
theorem kit_refT {K : PySem.W.Frag} {S T : Addr} (h2 : PySem.W.isClsIn K T = true) (h3 : PySem.W.typeIn K (.ref T) = some (.type "type")) (h4 : PySem.W.subIn K (.ref S) (.ref T) = some true) :
    PySem.W.kitOne K (.ref S) (.ref T) = some true := by
  have e2 : ((PySem.W.clsIn K T).isSome && PySem.W.typeIn K (.ref T) == some (.type "type")) = true := by
    have h2' : (PySem.W.clsIn K T).isSome = true := h2
    rw [h2', h3] <;> rfl
  show (if (Value.ref S == Value.ref T) = true then some true else if ((PySem.W.clsIn K T).isSome && PySem.W.typeIn K (.ref T) == some (.type "type")) = true then PySem.W.subIn K (.ref S) (.ref T) else none) = some true
  by_cases z : (Value.ref S == Value.ref T) = true
  · rw [if_pos z]
  · rw [if_neg z, if_pos e2]
    exact h4
end Rv
/-! what copy logs do -/
namespace Rv
open PySem PySem.Spec PyProof.Rows L2
def aft (p : Int × Int) (es : List Int) : List Int := es.set p.1.toNat (es.getD p.2.toNat 0)
def fin (es : List Int) (ps : List (Int × Int)) : List Int := ps.foldl (fun es p => aft p es) es
/-! idle lines -/
def at_ (n : Nat) (ps : List (Int × Int)) (k : Nat) : List Int := fin (own n) (ps.take k)
/-- a comprehension whose step makes nothing of what stood; Pv tells what is made so far -/
theorem lc_acc2 {J : It} {n : Nat} {G : Hp → Prop} {Y : Nat → Hp → V → Hp → Prop} (w : Walk J n G Y) {g : TG} {tt : TT} {te : TE} {vs : List Nat} {σ : L2.St} {H0 : Hp} {Q : VK} (Pv : Nat → List V → Hp → Prop) (p0 : Pv 0 [] H0)
    (st : ∀ i acc H H', Kt H H' → Pv i acc H → Pv i acc H') (sm : ∀ i acc H, i ≤ n → Pv i acc H → acc.length < 1000) (hG : ∀ H, Same H0 H → G H)
    (hs : ∀ i x H H' acc (Qc : VK) (R : Hp → Prop), i < n → Same H0 H → Pv i acc H → Y i H x H' → (∀ y H4, Same H H4 → Pv (i + 1) (acc ++ [y]) H4 → Qc y H4) → (∀ H4, Same H H4 → Pv (i + 1) acc H4 → R H4) →
      g x (wipe σ vs) H' fun σ2 H2 => wipe σ2 vs = wipe σ vs ∧ tt σ2 H2 fun b H3 => if b = true then te σ2 H3 Qc else R H3)
    (hd : ∀ H D acc, Same H0 H → H0 D = none → H D = some (.lst acc) → Pv n acc H → Q (.ref D) H) : Lc J g tt te vs σ H0 Q := fun D nD =>
  lc_it w (Qd := fun H => Q (.ref D) H) (fun i H => Same H0 H ∧ i ≤ n ∧ ∃ acc, H D = some (.lst acc) ∧ Pv i acc H) ⟨same_new (Same.refl _) nD, Nat.zero_le _, [], upd_same, st _ _ _ _ (Kt.new nD) p0⟩ (fun i H _ p => hG H p.1)
    (fun i x H H' hi p y => by
      obtain ⟨w0, hin, acc, hD, pa⟩ := p
      refine hs i x H H' acc _ _ hi w0 pa y (fun z H4 S4 pz => ?_) (fun H4 S4 pz => ⟨w0.trans S4, hi, acc, S4 _ _ hD, pz⟩)
      have hD4 := S4 _ _ hD
      exact ⟨acc, hD4, small1000 (by have := sm i acc H (by omega) pa; omega), same_mut (w0.trans S4) nD, hi, _, upd_same, st _ _ _ _ (Kt.mut hD4) pz⟩)
    (fun H p => by
      obtain ⟨w0, _, acc, hD, pa⟩ := p
      exact hd H D acc w0 nD hD pa)
theorem lc_acc {J : It} {n : Nat} {G : Hp → Prop} {Y : Nat → Hp → V → Hp → Prop} (w : Walk J n G Y) {g : TG} {tt : TT} {te : TE} {vs : List Nat} {σ : L2.St} {H0 : Hp} {Q : VK} (Pv : Nat → List V → Prop) (p0 : Pv 0 [])
    (sm : ∀ i acc, i ≤ n → Pv i acc → acc.length < 1000) (hG : ∀ H, Same H0 H → G H)
    (hs : ∀ i x H H' acc (Qc : VK) (R : Hp → Prop), i < n → Same H0 H → Pv i acc → Y i H x H' → (∀ y H4, Same H H4 → Pv (i + 1) (acc ++ [y]) → Qc y H4) → (∀ H4, Same H H4 → Pv (i + 1) acc → R H4) →
      g x (wipe σ vs) H' fun σ2 H2 => wipe σ2 vs = wipe σ vs ∧ tt σ2 H2 fun b H3 => if b = true then te σ2 H3 Qc else R H3)
    (hd : ∀ H D acc, Same H0 H → H0 D = none → H D = some (.lst acc) → Pv n acc → Q (.ref D) H) : Lc J g tt te vs σ H0 Q :=
  lc_acc2 w (fun i acc _ => Pv i acc) p0 (fun _ _ _ _ _ p => p) (fun i acc _ => sm i acc) hG hs hd
end Rv
/-! new objects by what holds of them; the box of the laws on copy logs; orders -/
namespace Rv
open PySem PySem.Spec PyProof.Rows L2
def New (o : HO) (n : Nat) (Q : VK) (H : Hp) : Prop := n ≤ sizeLine ∧ ∀ p, H p = none → Q (.ref p) (upd H p o)
def NewL (o : HO) (Q : VK) (H : Hp) : Prop := ∀ p, H p = none → Q (.ref p) (upd H p o)
section
variable {σ : L2.St} {H : Hp} {K : PySem.W.Frag} {Q : VK} {tr : TA} {a : Addr} {xs ys : List V} {o : HO} {n : Nat} {te : L2.St → Hp → (Int → Int → Hp → Prop) → Prop} {lo hi : Option Int}
theorem new_q {R : Hp → Prop} {p : Addr} {o : HO} (np : H p = none) (q : ∀ H2, Same H H2 → H2 p = some o → R H2) : R (upd H p o) := q _ (fun a u e => by rw [upd_ne (ne_of_none e np)]; exact e) upd_same
theorem rd_newL (q : ∀ H2 p, Same H H2 → H p = none → H2 p = some o → Q (.ref p) H2) : NewL o Q H := fun p np => new_q (R := fun H => Q (.ref p) H) np fun H2 S h => q H2 p S np h
theorem rd_newQ (hn : n ≤ 1000) (q : ∀ H2 p, Same H H2 → H p = none → H2 p = some o → Q (.ref p) H2) : New o n Q H := ⟨Nat.le_of_lt (small1000 hn), rd_newL q⟩
theorem rd_tupN (q : tr σ H fun xs H1 => New (.tup xs) xs.length Q H1) : tTup tr σ H Q := q
theorem rd_lstN (q : tr σ H fun xs H1 => New (.lst xs) xs.length Q H1) : tLst tr σ H Q := q
theorem rd_lstLN (h : H a = some (.lst xs)) (q : NewL (.lst xs) Q H) : rLstQ K [.ref a] H Q := ⟨a, xs, rfl, .inl (SqL.of h), q⟩
theorem rd_tupLN (h : H a = some (.lst xs)) (q : NewL (.tup xs) Q H) : rTupQ K [.ref a] H Q := ⟨a, xs, rfl, SqL.of h, q⟩
theorem rd_slLN (h : H a = some (.lst xs)) (q : NewL (.lst (cutV xs lo hi)) Q H) : rSlL K (.ref a) lo hi H Q := ⟨a, xs, rfl, SqL.of h, q⟩
theorem rd_catLN {b : Addr} (h : H a = some (.lst xs)) (h2 : H b = some (.lst ys)) (hl : xs.length + ys.length ≤ 1000) (q : NewL (.lst (xs ++ ys)) Q H) : rCat (.ref a) (.ref b) H Q := rd_catL h h2 hl q
end
/-! dicts by whole numbers -/
/-! the box -/
/-! orders of the blocks -/
structure Ord (n : Nat) (os : List Int) : Prop where
  perm : os.Perm (own n)
theorem Ord.len {n : Nat} {os : List Int} (o : Ord n os) : os.length = n := o.perm.length_eq.trans (own_len n)
/-- a list of pairs that grows -/
structure Lg (H : Hp) (l : Addr) (n : Nat) (as : List Addr) (ps : List (Int × Int)) : Prop where
  at_ : H l = some (.lst (as.map V.ref))
  t : TupsAt H as (pvs ps)
  ok : ∀ p ∈ ps, PairOk n p
section
variable {H H' : Hp} {l D : Addr} {n : Nat} {as : List Addr} {ps : List (Int × Int)} {p : Int × Int}
theorem Lg.len (L : Lg H l n as ps) : as.length = ps.length := L.t.1.trans (pvs_len ps)
theorem Lg.nil (h : H l = some (.lst [])) : Lg H l n [] [] := ⟨h, TupsAt.nil, fun p hp => absurd hp List.not_mem_nil⟩
theorem Lg.get (L : Lg H l n as ps) {i : Nat} (hi : i < ps.length) : ∃ p, as[i]? = some p ∧ H p = some (.tup (pv ps[i])) := by
  obtain ⟨p, e, h⟩ := L.t.get (i := i) (by rw [pvs_len]; exact hi)
  have er : (pvs ps)[i]'(by rw [pvs_len]; exact hi) = pv ps[i] := by simp [pvs]
  rw [er] at h
  exact ⟨p, e, h⟩
end
end Rv
/-! items of scripts that are made wrong: their data, their marks -/
namespace Rv
open PySem PySem.Spec PyProof.Rows L2
theorem SqT.sm {K : PySem.W.Frag} {H H' : Hp} {a : Addr} {xs : List V} (S : Same H H') (h : SqT K H a xs) : SqT K H' a xs := h.imp (fun z => z.imp (fun y => S _ _ y) fun ⟨o, y⟩ => ⟨o, S _ _ y⟩) id
mutual
theorem Dp.sm {K : PySem.W.Frag} {H H' : Hp} (S : Same H H') : ∀ {v : V} {d : PyData}, Dp K H v d → Dp K H' v d
  | _, _, .non => .non
  | _, _, .bl b => .bl b
  | _, _, .int i => .int i
  | _, _, .str x => .str x
  | _, _, .lst h k => .lst (Same.seq S h) (DpAll.sm S k)
  | _, _, .tup h k => .tup (SqT.sm S h) (DpAll.sm S k)
theorem DpAll.sm {K : PySem.W.Frag} {H H' : Hp} (S : Same H H') : ∀ {vs : List V} {ds : List PyData}, DpAll K H vs ds → DpAll K H' vs ds
  | _, _, .nil => .nil
  | _, _, .cons h k => .cons (Dp.sm S h) (DpAll.sm S k)
end
/-! fields of items -/
def FlV (x : V) : Prop := (∃ i : Int, x = .int i) ∨ ∃ cs, x = .str (txt cs) ∧ ∀ c ∈ cs, c < 128
def Fl : Im → Prop
  | .tup xs => ∀ x ∈ xs, FlV x
  | .lst xs => ∀ x ∈ xs, FlV x
  | .non => True
/-- no line -/
structure BadI (n : Nat) (it : Im) : Prop where
  wf : Wf it
  fl : Fl it
  no : ¬ Good n it
/-! marks: 0 a plain copy, 1 another line, 2 no line -/
inductive Mk (n : Nat) : Im → Int → Prop
  | plain {p : Int × Int} (ok : PairOk n p) : Mk n (.tup (cl p).vals) 0
  | other {r : Ln} (ok : LnOk n r) (np : ¬ Plain r) : Mk n (.tup r.vals) 1
  | bad {it : Im} (b : BadI n it) : Mk n it 2
def Mks (n : Nat) (is : List Im) (ms : List Int) : Prop := is.length = ms.length ∧ ∀ (i : Nat) it m, is[i]? = some it → ms[i]? = some m → Mk n it m
/-- where no mark is 2, the items are lines -/
theorem Mks.lines {n : Nat} : ∀ {is : List Im} {ms : List Int}, Mks n is ms → 2 ∉ ms → ∃ rs : List Ln, is = rs.map (fun r => .tup r.vals) ∧ (∀ r ∈ rs, LnOk n r) ∧ ∀ (i : Nat) r m, rs[i]? = some r → ms[i]? = some m → (m = 0 ∧ Plain r) ∨ (m = 1 ∧ ¬ Plain r)
  | [], _, _, _ => ⟨[], rfl, fun r h => absurd h List.not_mem_nil, fun i r m e => by simp at e⟩
  | it :: is, [], h, _ => by
    have := h.1
    simp at this
  | it :: is, m :: ms, h, no => by
    have h0 := h.2 0 it m rfl rfl
    obtain ⟨rs, e, ok, pl⟩ := Mks.lines (is := is) (ms := ms) ⟨by simpa using h.1, fun i a c e1 e2 => h.2 (i + 1) a c e1 e2⟩ (fun z => no (List.mem_cons_of_mem _ z))
    have fin : ∀ r : Ln, it = .tup r.vals → LnOk n r → ((m = 0 ∧ Plain r) ∨ (m = 1 ∧ ¬ Plain r)) → ∃ rs : List Ln, it :: is = rs.map (fun r => .tup r.vals) ∧ (∀ r ∈ rs, LnOk n r) ∧ ∀ (i : Nat) r k, rs[i]? = some r → (m :: ms)[i]? = some k → (k = 0 ∧ Plain r) ∨ (k = 1 ∧ ¬ Plain r) := fun r e0 ok0 p0 => by
      refine ⟨r :: rs, by rw [List.map_cons, ← e, ← e0], fun a ha => ?_, fun i a k e1 e2 => ?_⟩
      · rcases List.mem_cons.mp ha with z | z
        · rw [z]
          exact ok0
        · exact ok a z
      · cases i with
        | zero =>
          cases e1
          cases e2
          exact p0
        | succ i => exact pl i a k e1 e2
    cases h0 with
    | @plain p ok => exact fin (cl p) rfl ok.ln (.inl ⟨rfl, rfl, rfl⟩)
    | @other r ok np => exact fin r rfl ok (.inr ⟨rfl, np⟩)
    | bad b => exact absurd (List.mem_cons_self ..) no
/-! texts by multiplication, none among them -/
end Rv
/-! defs that raise nothing, called within an except suite -/
namespace Rv
open PySem PySem.Spec PyProof.Rows L2
/-- such a def's promise; p: the object of what is handled -/
structure FnQ (P : Program) (w : World) (K : PySem.W.Frag) (mg : Str → Option Value) (base : Heap) (k : Nat) (f : Addr) (fd : FuncData) (ps : List Str) (sp : Sp) : Prop where
  len : ∀ vs H Q E, sp vs H Q E → vs.length = ps.length
  go : ∀ (A : Around) (outer : List Env) (s : Shared) (H : Hp) (args : Args) (us : List Value) (vs : List V) (Q : VK) (E : XK) (p : Addr × Obj),
    L2H.RoomH k A → L2H.PinOk outer H s p → Env0 P w K mg base A outer s H → BindsTo s fd args (ps.zip us) → Vals vs us → sp vs H Q E → codeAny (model P w) A (.call (.ref f) args) (CR CX0 outer P w H s Q E) s
section
variable {P : Program} {w : World} {K : PySem.W.Frag} {mg : Str → Option Value} {base : Heap} {k : Nat} {f : Addr} {fd : FuncData} {N ps : List Str} {sp : Sp} {st : Stmt} {x qual : Str}
end
section
variable {X : Cx} {k : Nat} {f : Addr} {fd : FuncData} {ps : List Str} {sp : Sp} {x : Str} {q pos : Pos} {e : Expr} {es : List Expr} {t : TA}
end
end Rv
/-! sets of whole numbers, made of lists and tuples -/
namespace Rv
open PySem PySem.Spec PyProof.Rows L2
section
variable {P : Program} {w : World} {A : Around} {E : Value → Shared → Prop} {s : Shared}
abbrev noSet (w : World) : Obj := ⟨.type "set", none, .set #[] 0 (.fresh 0 0 (!w.params.followText "set-order")), #[]⟩
theorem set_list {l : Addr} {its : Array Value} {ns : List Int} {Q : Value → Shared → Prop} (calm : A.handled = none) (isl : s.heap.IsList l its) (vals : IntsAre its.toList ns) (small : ns.length + 1 < scanBound)
    (fin : ∀ (G : Heap) (tk c : Nat), SetR w G s.heap.objs.size (fun j => decide (j ∈ ns)) c → c ≤ ns.length → (∀ b o, s.heap.get? b = some o → G.get? b = some o) → Q (.ref s.heap.objs.size) { s with heap := G, toks := tk }) :
    wpAny (model P w) A (call (.type "set") [.ref l]) Q E s := by
  have many : its.size = ns.length := by rw [← Array.length_toList]; exact IntsAre.length vals
  obtain ⟨cc, tl, hmro⟩ := F.called_set.mro
  have m0 := F.called_set.made
  have m1 := F.called_set.sub
  have m2 := F.called_set.notType
  have m3 := F.called_set.canCreate
  have m4 := F.typeCall_set_1 (.ref l)
  refine wpAny_call (codeAny_of_tree ?_)
  show wpAny (model P w) _ (callAny (.type "set") ⟨[.ref l], []⟩) _ _ s
  refine wpAny_pure ⟨Code.quiet_builtin _ (by decide +kernel), codeAny_builtin F.entry_type_call ?_⟩
  rw [Around.under_plain (weight_type_call_type "set" [.ref l] []) rfl]
  repeat (any_goals (first | assumption | wp_step))
  refine codeAny_mono (code_set_led1 (.ref l) (E := E) (Q₁ := fun r s1 => r = .ref s.heap.objs.size ∧ s1 = { s with heap := s.heap.push (noSet w) }) ⟨rfl, rfl⟩) fun r s1 hr => ?_
  match r, hr with
  | .error e, hr => exact hr
  | .ok (.ret _), ⟨e1, e2⟩ =>
    subst e1 e2
    have new : (s.heap.push (noSet w)).get? s.heap.objs.size = some (noSet w) := Heap.get?_push_size _ rfl
    have newT : Shared.TypeIs { s with heap := s.heap.push (noSet w) } (.ref s.heap.objs.size) "set" := ⟨_, new, rfl⟩
    have i0 := F.called_set.init.lookup
    have i1 := F.called_set.init.bind (.ref s.heap.objs.size)
    repeat (any_goals (first | assumption | wp_step))
    refine codeAny_mono (codeAny_call_builtin (R := wants (fun r s2 => r = .none ∧ ∃ G tk c, s2 = { s with heap := G, toks := tk } ∧ SetR w G s.heap.objs.size (fun j => decide (j ∈ ns)) c ∧ c ≤ ns.length ∧ ∀ b o, s.heap.get? b = some o → G.get? b = some o) E)
      F.called_set.init.plain F.entry_set_init (check_set_init_1 newT ?_)) fun r2 s2 hr2 => ?_
    · obtain ⟨⟨lc, ld, lt, ls⟩, lget, lcls, nn, ldat⟩ := isl
      obtain rfl : lc = .type "list" := lcls
      obtain rfl : lt = .seq its nn := ldat
      have under : l < s.heap.objs.size := Heap.lt_size lget
      have lget1 : (s.heap.push (noSet w)).get? l = some ⟨.type "list", ld, .seq its nn, ls⟩ := Heap.get?_push_of_some _ lget
      have lat : (s.heap.push (noSet w)).IsList l its := ⟨_, lget1, rfl, nn, rfl⟩
      have k1 := F.sub_list_set
      have k2 := F.sub_list_frozenset
      have k3 : (Value.type "list" == Value.type "dict") = false := by decide
      unfold Builtin.«set.__init__» noKeywords Builtin.Frozenset.updateFrom
      generalize hpi : pyIter = it_
      wp_walk
      subst hpi
      have calm3 : A.in1.in1.in1.handled = none := calm
      have next : (s.heap.push (noSet w)).objs.size = s.heap.objs.size + 1 := Heap.size_push ..
      have apart : l ≠ (s.heap.push (noSet w)).objs.size := fun z => absurd under (by rw [z, next]; exact Nat.not_lt.mpr (Nat.le_succ _))
      have away : s.heap.objs.size ∉ [(s.heap.push (noSet w)).objs.size, l] := fun z => by
        rcases List.mem_cons.mp z with z | z
        · rw [next] at z
          exact absurd z (Nat.ne_of_lt (Nat.lt_succ_self _))
        · exact absurd (List.mem_singleton.mp z).symm (Nat.ne_of_lt under)
      refine wpAny_pyIter_list lat (wpAny_bind (wpAny_runValue (set_update_ints ((Walks.list calm3 _ l apart its).toS) s.heap.objs.size away ns many small (fun i v e => ?_) (its.size - 0) 0 _ (by omega) (Nat.zero_le _) ⟨⟨_, Heap.get?_push_size _ rfl, rfl, rfl⟩, lat.push _⟩ ?_ fun s3 c moved cle sr => ?_)))
      · have hi : i < ns.length := by rw [← many]; exact (Array.getElem?_eq_some_iff.mp e).1
        obtain ⟨t, et⟩ := PyProof.Rows.IntsAre.int_at vals i v (by rw [Array.getElem?_toList]; exact e)
        refine ⟨ns[i], t, List.getElem?_eq_getElem hi, et.trans ?_⟩
        rw [List.getD_eq_getElem?_getD, List.getElem?_eq_getElem hi]
        rfl
      · exact ⟨0, Nat.le_refl 0, setR_new_at (Heap.get?_push_of_some _ new)⟩
      · obtain ⟨G, g3, d3, tk3, os3⟩ := s3
        obtain rfl : g3 = s.gens := moved.gens
        obtain rfl : d3 = s.drawn := moved.drawn
        obtain rfl : os3 = s.os := moved.os
        refine wpAny_pure (wpAny_pure ⟨rfl, G, tk3, c, rfl, sr, by rw [← many]; exact cle, fun b o e => moved.heap b o (fun z => ?_) (Heap.get?_push_of_some _ (Heap.get?_push_of_some _ e))⟩)
        have lo := Heap.lt_size e
        rcases List.mem_cons.mp z with z | z
        · exact absurd z (Nat.ne_of_lt lo)
        · have z2 := List.mem_singleton.mp z
          rw [next] at z2
          exact absurd z2 (Nat.ne_of_lt (Nat.lt_succ_of_lt lo))
    · match r2, hr2 with
      | .error e, hr2 => exact hr2
      | .ok (.ret _), ⟨z1, G, tk, c, z2, sr, cle, kp⟩ =>
        subst z1 z2
        repeat (any_goals (first | assumption | wp_step))
        exact fin _ _ _ sr cle kp
      | .ok .next, hr2 => exact hr2.elim
      | .ok .brk, hr2 => exact hr2.elim
      | .ok .cont, hr2 => exact hr2.elim
  | .ok .next, hr => exact hr.elim
  | .ok .brk, hr => exact hr.elim
  | .ok .cont, hr => exact hr.elim
end
section
variable {X : Cx}
/-- set(xs), xs a list or a tuple of whole numbers -/
def rSetI (K : PySem.W.Frag) (w : World) : List V → Hp → VK → Prop := fun xs H Q => ∃ (p : Addr) (ns : List Int), xs = [.ref p] ∧ (SqL K H p (ns.map V.int) ∨ SqT K H p (ns.map V.int)) ∧ ns.length < 64 ∧
  ∀ (a : Addr) (c : Nat), H a = none → c ≤ ns.length → Q (.ref a) (upd H a (SetO w a (fun j => decide (j ∈ ns)) c))
theorem cr_setI (hc : X.calm = true) : CallR X (.type "set") (rSetI X.K X.w) := by
  intro pins s σ H xs us Q I r h
  obtain ⟨p, ns, rfl, hs, h64, q⟩ := h
  have sb : ns.length + 1 < scanBound := by unfold scanBound; omega
  rw [Vals.ref1 r]
  rcases hs with hs | hs
  · obtain ⟨its, rv, ⟨o, n, ho, hcl, _, hd⟩, _⟩ := I.list hs
    exact set_list (its := its.toArray) (I.ok.hd hc) ⟨o, ho, hcl, n, hd⟩ (ints_of_vals rv) sb fun G tk c R hcn k => ⟨.ref _, upd H s.heap.objs.size (SetO X.w s.heap.objs.size (fun j => decide (j ∈ ns)) c), I.laid (t' := tk) k (Nat.le_refl _) (setO_new R), rfl, q _ c (I.hok.fresh (Nat.le_refl _)) hcn⟩
  · obtain ⟨its, rv, ht, _⟩ := I.tuple hs
    exact call_set_tupI ns (I.ok.hd hc) (show s.heap.IsTuple p its.toArray from ht) (ints_of_vals rv) sb fun G tk c R hcn k => ⟨.ref _, upd H s.heap.objs.size (SetO X.w s.heap.objs.size (fun j => decide (j ∈ ns)) c), I.laid (t' := tk) k (Nat.le_refl _) (setO_new R), rfl, q _ c (I.hok.fresh (Nat.le_refl _)) hcn⟩
end
/-- the ascending list of what stands in a list, once each -/
def Asc (ns os : List Int) : Prop := os.Pairwise (· < ·) ∧ ∀ k, k ∈ os ↔ k ∈ ns
section
variable {K : PySem.W.Frag} {w : World} {H : Hp} {Q : VK} {p a : Addr} {ns : List Int} {c : Nat}
theorem rd_sortedI (h : H a = some (SetO w a (fun j => decide (j ∈ ns)) c)) (hc : c < 64) (q : ∀ H2 p os, Same H H2 → H p = none → H2 p = some (.lst (os.map V.int)) → Asc ns os → os.length = c → Q (.ref p) H2) : rSortedSet w [.ref a] H Q :=
  ⟨a, _, c, rfl, h, hc, fun os p pw m l np => q _ p os (fun b u e => by rw [upd_ne (ne_of_none e np)]; exact e) np upd_same ⟨pw, fun k => (m k).trans decide_eq_true_iff⟩ l⟩
end
end Rv
/-! which blocks matter -/
namespace Rv
open PySem PySem.Spec PyProof.Rows L2
end Rv
/-! searches; what restarts from the top do -/
namespace Rv
open PySem PySem.Spec PyProof.Rows L2
section
variable {P : Type}
inductive Rch (nx : P → List P) (s : P) : P → Prop
  | refl : Rch nx s s
  | step {p q : P} (h : Rch nx s p) (m : q ∈ nx p) : Rch nx s q
/-- a search between two turns: what waits, what was met, how many were taken up -/
structure Sr (nx : P → List P) (s : P) (td seen : List P) (i : Nat) : Prop where
  nd : seen.Nodup
  st : s ∈ seen
  rc : ∀ p ∈ seen, Rch nx s p
  tds : ∀ p ∈ td, p ∈ seen
  cl : ∀ p ∈ seen, p ∈ td ∨ ∀ q ∈ nx p, q ∈ seen
  cnt : i + td.length = seen.length
/-- p was taken up, the first j of what follows were looked at -/
structure Pr (nx : P → List P) (s p : P) (td seen : List P) (i j : Nat) : Prop where
  nd : seen.Nodup
  st : s ∈ seen
  pin : p ∈ seen
  rc : ∀ p ∈ seen, Rch nx s p
  tds : ∀ p ∈ td, p ∈ seen
  cl : ∀ q ∈ seen, q ∈ td ∨ q = p ∨ ∀ r ∈ nx q, r ∈ seen
  done : ∀ (k : Nat) q, k < j → (nx p)[k]? = some q → q ∈ seen
  cnt : i + 1 + td.length = seen.length
variable {nx : P → List P} {s p q : P} {td seen : List P} {i j : Nat}
theorem Sr.all (S : Sr nx s [] seen i) (q : P) : q ∈ seen ↔ Rch nx s q := ⟨S.rc q, fun r => by
  induction r with
  | refl => exact S.st
  | step h m ih =>
    rcases S.cl _ ih with k | k
    · exact absurd k List.not_mem_nil
    · exact k _ m⟩
end
/-! from the top -/
def src (n : Nat) (ps : List (Int × Int)) (k b : Nat) : Int := (at_ n ps k).getD b 0
section
variable {n : Nat} {ps : List (Int × Int)}
/-! by images -/
end
end Rv
/-! searches in the heap: what waits, tables of what was met -/
namespace Rv
open PySem PySem.Spec PyProof.Rows L2
def rIntB : List V → Hp → VK → Prop := fun xs H Q => ∃ b : Bool, xs = [.bl b] ∧ Q (.int (if b then 1 else 0)) H
theorem call_intB {X : Cx} : CallR X (.type "int") rIntB := fun pins s σ H xs us Q I r h => call_int1 pins s σ H xs us Q I r (.inr h)
section
variable {σ : L2.St} {H : Hp} {K : PySem.W.Frag} {Q : VK} {p : Addr} {xs : List V} {y : V} {D : Ends}
theorem rd_notN {te : TE} (q : te σ H fun x H1 => Q (.bl (!decide (x = .non))) H1) : tNotN te σ H Q := q
theorem rd_intB {b : Bool} (q : Q (.int (if b then 1 else 0)) H) : rIntB [.bl b] H Q := ⟨b, rfl, q⟩
end
def ky (es : List Int) : List Key := es.map Sum.inl
/-- a dict whose keys are images: it holds those of ls, each once -/
structure Dk (H : Hp) (d : Addr) (ls : List (List Int)) : Prop where
  ex : ∃ kvs : List (List Key × V), H d = some (.dT kvs) ∧ kvs.map Prod.fst = ls.map ky
  nd : ls.Nodup
section
variable {H H' : Hp} {d b : Addr} {ls : List (List Int)} {es : List Int} {Q : VK} {R : Hp → Prop} {v : V}
theorem Dk.nil (h : H d = some (.dT [])) : Dk H d [] := ⟨⟨[], h, rfl⟩, List.nodup_nil⟩
end
/-! a table of places -/
def rowG (n k : Nat) (seen : List (Nat × Nat)) : List V := (List.range n).map fun b => V.bl (decide ((k, b) ∈ seen))
structure Grid (H : Hp) (g : Addr) (m n : Nat) (rws : List Addr) (seen : List (Nat × Nat)) : Prop where
  at_ : H g = some (.lst (rws.map V.ref))
  len : rws.length = m
  nd : rws.Nodup
  ng : g ∉ rws
  row : ∀ (k : Nat) r, rws[k]? = some r → H r = some (.lst (rowG n k seen))
section
variable {H H' : Hp} {g l : Addr} {m n k b : Nat} {rws : List Addr} {seen : List (Nat × Nat)}
theorem Grid.get (G : Grid H g m n rws seen) (hk : k < m) : ∃ r, rws[k]? = some r ∧ r ∈ rws ∧ atI (rws.map V.ref) (k : Int) = some (.ref r) ∧ H r = some (.lst (rowG n k seen)) := by
  have e : rws[k]? = some (rws[k]'(by rw [G.len]; exact hk)) := List.getElem?_eq_getElem _
  exact ⟨_, e, List.mem_of_getElem? e, atI_nat (by rw [List.getElem?_map, e]; rfl), G.row k _ e⟩
end
/-! the least place that spoils -/
/-! how many come to a block -/
end Rv
/-! late lines -/
namespace Rv
open PySem PySem.Spec PyProof.Rows L2
/-- the last of the first k lines that writes on b, or -1 -/
def lw (ps : List (Int × Int)) (b : Int) : Nat → Int
  | 0 => -1
  | k + 1 => match ps[k]? with
    | some p => if p.1 = b then (k : Int) else lw ps b k
    | none => lw ps b k
section
variable {n : Nat} {ps : List (Int × Int)}
def LBad (n : Nat) (ps : List (Int × Int)) (i : Nat) : Prop := ∃ h : i < ps.length, lw ps ps[i].1 ps.length ≤ lw ps ps[i].2 ps.length ∨ src n ps ps.length ps[i].2.toNat ≠ src n ps ps.length ps[i].1.toNat
def LateOk (n : Nat) (ps : List (Int × Int)) : Prop := ∀ i, ¬ LBad n ps i
theorem LateOk.get (t : LateOk n ps) {i : Nat} (h : i < ps.length) : lw ps ps[i].2 ps.length < lw ps ps[i].1 ps.length ∧ src n ps ps.length ps[i].2.toNat = src n ps ps.length ps[i].1.toNat := by
  have k := t i
  by_cases a : lw ps ps[i].2 ps.length < lw ps ps[i].1 ps.length
  · by_cases b : src n ps ps.length ps[i].2.toNat = src n ps ps.length ps[i].1.toNat
    · exact ⟨a, b⟩
    · exact absurd ⟨h, .inr b⟩ k
  · exact absurd ⟨h, .inl (by omega)⟩ k
/-! the same by images -/
end
end Rv
namespace Rv
open PySem PySem.Spec PyProof.Rows L2
/-! how many come to a block -/
section
variable {n k b : Nat} {ps : List (Int × Int)}
end
end Rv
/-! dicts whose keys are pairs of a number and a row of numbers -/
namespace Rv
open PySem PySem.Spec PyProof.Rows L2
abbrev NK := Int × List Int
abbrev NE := NK × Addr × V
def nk (k : NK) : NestedKey := .tup [.num k.1, .tup (k.2.map .num)]
def KAt (H : Hp) (k : NK) (b : Addr) : Prop := ∃ q, H b = some (.tup [.int k.1, .ref q]) ∧ H q = some (.tup (k.2.map V.int))
def NRel (x : NE) (y : NestedKey × Addr × Value) : Prop := y.1 = nk x.1 ∧ y.2.1 = x.2.1 ∧ RelV x.2.2 y.2.2
def DNφ (P : Program) (w : World) (a : Addr) (xs : List NE) : Heap → Prop := fun h => (a == sysModules) = false ∧ xs.length ≤ sizeLine ∧ ∃ ys : List (NestedKey × Addr × Value), Paired NRel xs ys ∧
  ∃ o es ep, h.get? a = some o ∧ o.ExactDict ∧ o.data = .dict es ep ∧ es.toList = ys.map (entryOfKey (nestedKind P w)) ∧ (ys.map (·.1)).Nodup
def DNO (P : Program) (w : World) (a : Addr) (xs : List NE) : HO := .ext (DNφ P w a xs)
def keysN (xs : List NE) : List NK := xs.map (·.1)
def putN (xs : List NE) (k : NK) (b : Addr) (v : V) : List NE := if k ∈ keysN xs then xs.map (fun x => if x.1 = k then (x.1, x.2.1, v) else x) else xs ++ [(k, b, v)]
def KsAt (H : Hp) (xs : List NE) : Prop := ∀ x ∈ xs, KAt H x.1 x.2.1
theorem nums_inj : ∀ {a b : List Int}, a.map NestedKey.num = b.map NestedKey.num → a = b
  | [], [], _ => rfl
  | [], _ :: _, h => by simp at h
  | _ :: _, [], h => by simp at h
  | x :: r, y :: t, h => by
    rw [List.map_cons, List.map_cons] at h
    obtain ⟨h1, h2⟩ := List.cons.inj h
    rw [NestedKey.num.inj h1, nums_inj h2]
theorem nk_inj {a b : NK} (h : nk a = nk b) : a = b := by
  have h1 := NestedKey.tup.inj h
  obtain ⟨h2, h3⟩ := List.cons.inj h1
  obtain ⟨h4, _⟩ := List.cons.inj h3
  exact Prod.ext (NestedKey.num.inj h2) (nums_inj (NestedKey.tup.inj h4))
theorem depth_nums : ∀ es : List Int, NestedKey.depthAll (es.map NestedKey.num) = 0
  | [] => rfl
  | x :: r => by
    show max (NestedKey.depth (.num x)) (NestedKey.depthAll (r.map NestedKey.num)) = 0
    rw [depth_nums r]
    rfl
theorem depth_nk (k : NK) : (nk k).depth ≤ 8 := by
  show max (NestedKey.depth (.num k.1)) (max (NestedKey.depthAll (k.2.map NestedKey.num) + 1) 0) + 1 ≤ 8
  rw [depth_nums]
  show max 0 (max (0 + 1) 0) + 1 ≤ 8
  decide
theorem nums_all {h : Heap} : ∀ {es : List Int} {us : List Value}, Vals (es.map V.int) us → NestedAll h (es.map NestedKey.num) us
  | [], _, r => by cases r; exact .nil
  | x :: es, _, r => by
    cases r with
    | cons r1 r2 =>
      obtain ⟨t, rfl⟩ := r1
      exact .cons (.int _ _) (nums_all r2)
theorem nk_of {P : Program} {w : World} {H : Hp} {h : Heap} {k : NK} {b : Addr} (ok : HOk P w H h) (e : KAt H k b) : (nestedKind P w).is h (nk k) b := by
  obtain ⟨q, e1, e2⟩ := e
  obtain ⟨_, its, r, o, h1, h2, n, h3⟩ := (show ObjOk P w H h b (.tup [.int k.1, .ref q]) from ok b _ e1)
  obtain ⟨_, its2, r2, o2, g1, g2, n2, g3⟩ := (show ObjOk P w H h q (.tup (k.2.map V.int)) from ok q _ e2)
  refine ⟨.tup h1 h2 h3 ?_, depth_nk k⟩
  cases r with
  | cons r1 r3 =>
    cases r3 with
    | cons r4 r5 =>
      cases r5
      obtain ⟨t, rfl⟩ := r1
      cases r4
      exact .cons (.int _ _) (.cons (.tup g1 g2 g3 (by simpa using nums_all r2)) .nil)
theorem at_some {xs : List NE} {ys : List (NestedKey × Addr × Value)} (r : Paired NRel xs ys) (k : NK) : (atKey ys (nk k)).isSome = decide (k ∈ keysN xs) := by
  unfold atKey
  rw [Option.isSome_map]
  induction r with
  | nil => rfl
  | @cons x y xs ys h t ih =>
    obtain ⟨h1, h2, h3⟩ := h
    rw [List.find?_cons, h1]
    unfold keysN at *
    rw [List.map_cons]
    by_cases z : x.1 = k
    · rw [decide_eq_true (show nk x.1 = nk k from by rw [z])]
      rw [decide_eq_true (show k ∈ x.1 :: xs.map (·.1) from by rw [z]; exact List.mem_cons_self ..)]
      rfl
    · rw [decide_eq_false (show ¬ nk x.1 = nk k from fun e => z (nk_inj e))]
      show (List.find? _ ys).isSome = _
      rw [ih]
      refine decide_eq_decide.mpr ⟨fun m => List.mem_cons_of_mem _ m, fun m => ?_⟩
      rcases List.mem_cons.mp m with e | e
      · exact absurd e.symm z
      · exact e
theorem rel_put {xs : List NE} {ys : List (NestedKey × Addr × Value)} (r : Paired NRel xs ys) (k : NK) (b : Addr) {v : V} {u : Value} (ru : RelV v u) : Paired NRel (putN xs k b v) (storedH ys (nk k) b u) := by
  unfold putN storedH
  have e := at_some r k
  by_cases z : k ∈ keysN xs
  · rw [if_pos z, if_pos (by rw [e]; exact decide_eq_true z)]
    clear e z
    induction r with
    | nil => exact .nil
    | @cons x y xs ys h t ih =>
      obtain ⟨h1, h2, h3⟩ := h
      rw [List.map_cons, List.map_cons]
      refine .cons ?_ ih
      unfold putAt
      by_cases z : x.1 = k
      · rw [if_pos z, if_pos (by rw [h1, z])]
        exact ⟨h1, h2, ru⟩
      · rw [if_neg z, if_neg (by rw [h1]; exact fun e => z (nk_inj e))]
        exact ⟨h1, h2, h3⟩
  · rw [if_neg z, if_neg (by rw [e, decide_eq_false z]; exact Bool.false_ne_true)]
    exact r.snoc ⟨rfl, rfl, ru⟩
theorem putN_len (xs : List NE) (k : NK) (b : Addr) (v : V) : (putN xs k b v).length ≤ xs.length + 1 := by
  unfold putN
  split
  · rw [List.length_map]
    omega
  · rw [List.length_append]
    exact Nat.le_refl _
theorem dn_new {P : Program} {w : World} {H : Hp} {h : Heap} {a : Addr} {xs : List NE} (R : DNφ P w a xs h) : ObjOk P w H h a (DNO P w a xs) := by
  have ⟨hd, hl, ys, r, o, es, ep, ho, rest⟩ := R
  refine ⟨R, ⟨o, ho⟩, fun h1 h2 p k => ?_⟩
  obtain ⟨hd, hl, ys, r, o, es, ep, ho, rest⟩ := p
  exact ⟨hd, hl, ys, r, o, es, ep, k o ho, rest⟩
section
variable {X : Cx} {pins : List (Addr × Obj)} {σ : L2.St} {H : Hp} {s : Shared} {a b : Addr} {xs : List NE} {k : NK} {A : Around} {E : Value → Shared → Prop} {Pg : Program} {wd : World}
theorem dn_get (I : Inv X pins σ H s) (e : H a = some (DNO X.prog X.w a xs)) (ka : KsAt H xs) : (a == sysModules) = false ∧ xs.length ≤ sizeLine ∧ ∃ ys, Paired NRel xs ys ∧ s.heap.DictOfH (nestedKind X.prog X.w) a ys := by
  obtain ⟨hd, hl, ys, r, o, es, ep, ho, hx, hdat, hes, hn⟩ : DNφ X.prog X.w a xs s.heap := (I.hok a _ e).1
  refine ⟨hd, hl, ys, r, o, es, ep, ho, hx, hdat, hes, fun y hy => ?_, hn⟩
  clear hes hn e hl
  induction r with
  | nil => exact absurd hy List.not_mem_nil
  | @cons x z xs ys h t ih =>
    rcases List.mem_cons.mp hy with e | e
    · subst e
      obtain ⟨h1, h2, h3⟩ := h
      rw [h1, h2]
      exact nk_of I.hok (ka x (List.mem_cons_self ..))
    · exact ih (fun x hx => ka x (List.mem_cons_of_mem _ hx)) e
theorem dn_setItem {Q : Unit → Shared → Prop} {v : V} {u : Value} (hu : A.units + 64 < cLine) (I : Inv X pins σ H s) (e : H a = some (DNO X.prog X.w a xs)) (ka : KsAt H xs) (kb : KAt H k b) (hl : xs.length < 100000) (rv : RelV v u)
    (h : ∀ s', Inv X pins σ (upd H a (DNO X.prog X.w a (putN xs k b v))) s' → Q () s') : wpAny (model X.prog X.w) A (setItem (.ref a) (.ref b) u) Q E s := by
  obtain ⟨hd, _, ys, r, dd⟩ := dn_get I e ka
  have hz : ys.length ≤ sizeLine := by rw [← Paired.length r, sizeLine_eq]; omega
  refine wpAny_setItem_heap (hsz := hz) (knd := nestedKind X.prog X.w) (show A.units + 1 + 8 < cLine by omega) (nk_of I.hok kb) dd fun h' dd' hs => h _ ?_
  obtain ⟨q, es, ep, hq, h2, h3, h4, _, h5⟩ := dd'
  refine d_write I (by rw [e]; exact True.intro) hs ⟨q, hq⟩ (dn_new ⟨hd, ?_, _, rel_put r k b rv, q, es, ep, hq, h2, h3, h4, h5⟩)
  have := putN_len xs k b v
  rw [sizeLine_eq]
  omega
/-! readings -/
def tDNewN (P : Program) (w : World) : TE := fun _ H Q => ∀ p, H p = none → Q (.ref p) (upd H p (DNO P w p []))
def NP (P : Program) (w : World) (x y v : V) (H : Hp) (R : Hp → Prop) : Prop := ∃ a b xs k, x = .ref a ∧ y = .ref b ∧ H a = some (DNO P w a xs) ∧ KsAt H xs ∧ KAt H k b ∧ xs.length < 100000 ∧ R (upd H a (DNO P w a (putN xs k b v)))
def sDPutN (P : Program) (w : World) (td ty tv : TE) : TS := fun D σ H => tv σ H fun v H1 => td σ H1 fun x H2 => ty σ H2 fun y H3 => NP P w x y v H3 fun H4 => D.nx σ H4
end
section
variable {X : Cx} {o i e value : Expr} {pos pos' tpos : Pos} {td ty tv : TE} {P : Program} {w : World}
theorem pe_dnewN (hP : X.prog = P) (hw : X.w = w) : PE X (.Dict [] [] pos) (tDNewN P w) := by
  subst hP hw
  refine ⟨fun pins s σ H Q I h => wpAny_Dict_empty ⟨.ref s.heap.objs.size, _, I.laid (a := s.heap.objs.size) (o := DNO X.prog X.w s.heap.objs.size []) (t' := s.toks) (fun _ _ q => Heap.get?_push_of_some _ q) (Nat.le_refl _) (dn_new ?_), rfl, h _ (I.hok.fresh (Nat.le_refl _))⟩⟩
  exact ⟨beq_eq_false_iff_ne.mpr (Ne.symm (Nat.ne_of_lt I.big)), Nat.zero_le _, [], .nil, _, #[], 0, Heap.get?_push_size _ rfl, ⟨rfl, rfl, rfl⟩, rfl, rfl, List.nodup_nil⟩
theorem ps_dputN (hP : X.prog = P) (hw : X.w = w) (hu : X.A.units + 64 < cLine) (ho : PE X o td) (hi : PE X i ty) (hv : PE X value tv) (hs : swapsWith value (some (.Subscript o i pos')) pos.line X.env = pure false) :
    PS X (.Assign [.Subscript o i pos'] value pos) (sDPutN P w td ty tv) := by
  subst hP hw
  refine ⟨fun pins s σ H D I h => ?_⟩
  refine wpAny_Assign_Subscript (thn (hv.run pins s σ H _ I h) fun r s1 ⟨v, H1, I1, rv, q1⟩ => thn (ho.run pins s1 σ H1 _ I1 q1) fun u s2 ⟨x, H2, I2, rx, q2⟩ => thn (hi.run pins s2 σ H2 _ I2 q2) fun iv s3 ⟨y, H3, I3, ry, a, b, xs, k, ex, ey, ea, ka, kb, hl, q3⟩ => ?_) hs
  subst ex ey
  obtain rfl : u = Value.ref a := rx
  obtain rfl : iv = Value.ref b := ry
  exact dn_setItem hu I3 ea ka kb hl rv fun s4 I4 => ⟨σ, _, I4, q3⟩
end
section
variable {σ : L2.St} {H H' : Hp} {Q : VK} {D : Ends} {P : Program} {w : World} {td ty tv : TE} {d b l : Addr} {ks : List NK} {k : NK} {v : V} {R : Hp → Prop} {o : HO}
theorem rd_dnewN (q : ∀ H2 p, Same H H2 → H p = none → H2 p = some (DNO P w p []) → Q (.ref p) H2) : tDNewN P w σ H Q := fun p np => new_q (R := fun H => Q (.ref p) H) np fun H2 S h => q H2 p S np h
theorem rd_dputN (q : tv σ H fun v H1 => td σ H1 fun x H2 => ty σ H2 fun y H3 => NP P w x y v H3 fun H4 => D.nx σ H4) : sDPutN P w td ty tv D σ H := q
/-- a dict that holds these keys, each once -/
structure Mn (P : Program) (w : World) (H : Hp) (d : Addr) (ks : List NK) : Prop where
  ex : ∃ xs : List NE, H d = some (DNO P w d xs) ∧ keysN xs = ks ∧ KsAt H xs
  nd : ks.Nodup
theorem KAt.kt (h : KAt H k b) (t : Kt H H') : KAt H' k b := by
  obtain ⟨q, h1, h2⟩ := h
  exact ⟨q, t _ _ h1, t _ _ h2⟩
theorem Kt.mutE {φ : Heap → Prop} (h : H d = some (.ext φ)) : Kt H (upd H d o) := fun a ys e => by
  rw [upd_ne (ne_of e h (by intro z; cases z))]
  exact e
theorem Mn.nil (h : H d = some (DNO P w d [])) : Mn P w H d [] := ⟨⟨[], h, rfl, fun x hx => absurd hx List.not_mem_nil⟩, List.nodup_nil⟩
theorem Mn.same (m : Mn P w H d ks) (S : Same H H') : Mn P w H' d ks := ⟨by
  obtain ⟨xs, h, e, t⟩ := m.ex
  exact ⟨xs, S _ _ h, e, fun x hx => (t x hx).kt (Kt.same S)⟩, m.nd⟩
theorem rd_NP (m : Mn P w H d ks) (hb : KAt H k b) (hl : ks.length < 100000) (q : ∀ H2 ks2, (∃ φ, H d = some (.ext φ)) → (∃ o, H2 = upd H d o) → Mn P w H2 d ks2 → (k ∈ ks → ks2 = ks) → (k ∉ ks → ks2 = ks ++ [k]) → R H2) : NP P w (.ref d) (.ref b) v H R := by
  obtain ⟨xs, h, e, t⟩ := m.ex
  have lx : xs.length = ks.length := by rw [← e]; exact (List.length_map ..).symm
  have kt : Kt H (upd H d (DNO P w d (putN xs k b v))) := Kt.mutE h
  refine ⟨d, b, xs, k, rfl, rfl, h, t, hb, by omega, ?_⟩
  by_cases z : k ∈ ks
  · refine q _ ks ⟨_, h⟩ ⟨_, rfl⟩ ⟨⟨_, upd_same, ?_, fun x hx => ?_⟩, m.nd⟩ (fun _ => rfl) (fun y => absurd z y)
    · unfold putN
      rw [if_pos (by rw [e]; exact z), ← e]
      unfold keysN
      rw [List.map_map]
      refine List.map_congr_left fun x _ => ?_
      show (if x.1 = k then (x.1, x.2.1, v) else x).1 = x.1
      split <;> rfl
    · unfold putN at hx
      rw [if_pos (by rw [e]; exact z)] at hx
      obtain ⟨x0, hx0, rfl⟩ := List.mem_map.mp hx
      have := (t x0 hx0).kt kt
      split <;> exact this
  · refine q _ (ks ++ [k]) ⟨_, h⟩ ⟨_, rfl⟩ ⟨⟨_, upd_same, ?_, fun x hx => ?_⟩, List.nodup_append.mpr ⟨m.nd, List.nodup_cons.mpr ⟨List.not_mem_nil, List.nodup_nil⟩, fun a ha c hc => by
      rw [List.mem_singleton.mp hc]
      exact fun y => z (y ▸ ha)⟩⟩ (fun y => absurd y z) (fun _ => rfl)
    · unfold putN
      rw [if_neg (by rw [e]; exact z)]
      unfold keysN at *
      rw [List.map_append, e]
      rfl
    · unfold putN at hx
      rw [if_neg (by rw [e]; exact z)] at hx
      rcases List.mem_append.mp hx with y | y
      · exact (t x y).kt kt
      · rw [List.mem_singleton.mp y]
        exact hb.kt kt
end
end Rv
/-! a dict comprehension stored on its line; searches over places with images -/
namespace Rv
open PySem PySem.Spec PyProof.Rows L2
section
variable {X : Cx}
end
section
variable {H : Hp} {Q : VK} {p : Addr} {xs : List V} {y : V}
end
/-! places with images -/
def nkP (p : Nat × List Int) : NK := ((p.1 : Int), p.2)
/-- what waits: each a tuple of a number and an image -/
def PlsAt (H : Hp) (as : List Addr) (ps : List (Nat × List Int)) : Prop := as.length = ps.length ∧ ∀ (i : Nat) p, ps[i]? = some p → ∃ a, as[i]? = some a ∧ KAt H (nkP p) a
section
variable {H H' : Hp} {as : List Addr} {ps : List (Nat × List Int)} {a : Addr} {p : Nat × List Int}
theorem PlsAt.nil : PlsAt H [] [] := ⟨rfl, fun i p e => by simp at e⟩
end
end Rv
namespace Rv
open PySem PySem.Spec PyProof.Rows L2
/-- the dict of the last writes -/
structure Lw (ps : List (Int × Int)) (i : Nat) (kvs : List (Key × V)) : Prop where
  len : kvs.length ≤ i
  val : ∀ b : Int, valV kvs (Sum.inl b) = if lw ps b i < 0 then none else some (.int (lw ps b i))
theorem Lw.nil {ps : List (Int × Int)} : Lw ps 0 [] := ⟨Nat.le_refl _, fun b => by
  show none = if (-1 : Int) < 0 then none else _
  rw [if_pos (by decide)]⟩
end Rv
/-! from an old mark -/
namespace Rv
open PySem PySem.Spec PyProof.Rows L2
/-- block b matters at position k -/
def Mt (n : Nat) (ps : List (Int × Int)) (k : Nat) (b : Int) : Prop := b ∈ fin (own n) (ps.drop k)
section
variable {n : Nat} {ps : List (Int × Int)}
/-! the same by images -/
end
/-- what mattered so far: each block with the least position -/
structure Mm (n : Nat) (ps : List (Int × Int)) (j : Nat) (kvs : List (Key × V)) : Prop where
  len : kvs.length ≤ j * 12
  some_ : ∀ (b : Int) v, valV kvs (Sum.inl b) = some v → ∃ k : Nat, v = .int k ∧ k < j ∧ Mt n ps k b ∧ ∀ k', k' < k → ¬ Mt n ps k' b
  none_ : ∀ b : Int, valV kvs (Sum.inl b) = none → ∀ k, k < j → ¬ Mt n ps k b
theorem Mm.nil {n : Nat} {ps : List (Int × Int)} : Mm n ps 0 [] := ⟨Nat.zero_le _, fun b v e => (by cases e), fun b _ k hk => absurd hk (Nat.not_lt_zero k)⟩
/-- the same while the blocks os that matter at i are gone through -/
structure Mi (n : Nat) (ps : List (Int × Int)) (i : Nat) (os : List Int) (j : Nat) (kvs : List (Key × V)) : Prop where
  len : kvs.length ≤ i * 12 + j
  some_ : ∀ (b : Int) v, valV kvs (Sum.inl b) = some v → (∃ k : Nat, v = .int k ∧ k < i ∧ Mt n ps k b ∧ ∀ k', k' < k → ¬ Mt n ps k' b) ∨ (v = .int i ∧ b ∈ os ∧ ∀ k, k < i → ¬ Mt n ps k b)
  none_ : ∀ b : Int, valV kvs (Sum.inl b) = none → (∀ k, k < i → ¬ Mt n ps k b) ∧ b ∉ os.take j
section
variable {n i j : Nat} {ps : List (Int × Int)} {os : List Int} {kvs : List (Key × V)}
end
/-- the tables of what matters, from position j on -/
structure Tb (H : Hp) (n : Nat) (ps : List (Int × Int)) (j : Nat) (ts : List Addr) : Prop where
  len : ts.length + j = ps.length + 1
  at_ : ∀ i, i + j ≤ ps.length → ∃ (a : Addr) (os : List Int), ts[i]? = some a ∧ H a = some (.lst (os.map V.int)) ∧ os.length + (j + i) ≤ 12 + ps.length ∧ ∀ x, x ∈ os ↔ Mt n ps (j + i) x
theorem Tb.cons {H : Hp} {n j : Nat} {ps : List (Int × Int)} {ts : List Addr} {a : Addr} {os : List Int} (t : Tb H n ps (j + 1) ts) (h : H a = some (.lst (os.map V.int))) (l : os.length + j ≤ 12 + ps.length) (m : ∀ x, x ∈ os ↔ Mt n ps j x) : Tb H n ps j (a :: ts) := ⟨by have := t.len; rw [List.length_cons]; omega, fun i hi => by
  cases i with
  | zero => exact ⟨a, os, rfl, h, l, m⟩
  | succ i =>
    obtain ⟨b, os2, e1, e2, e3, e4⟩ := t.at_ i (by omega)
    refine ⟨b, os2, e1, e2, by omega, ?_⟩
    rw [show j + (i + 1) = j + 1 + i by omega]
    exact e4⟩
end Rv
/-! set comprehensions whose elements are whole numbers -/
namespace Rv
open PySem PySem.Spec PyProof.Rows L2 PpSet
section
variable {X : Cx}
variable {elt tg iter : Expr} {ifs : List Expr} {scope : Scope} {own : List (PySem.Str × Nat)} {pos : Pos} {wi : TI} {g : TG} {tt : TT} {te : TE} {w : World}
end
end Rv
/-! another box of draws; images that may be wrong; replacing -/
namespace Rv
open PySem PySem.Spec PyProof.Rows L2
/-! tuples put together -/
section
variable {H : Hp} {K : PySem.W.Frag} {Q : VK} {a b : Addr} {xs ys : List V} {lo hi : Option Int}
theorem rd_sorted {ns : List Int} (h : H a = some (.lst (ns.map V.int))) (l : ns.length < 64) (q : ∀ (H2 : Hp) (p : Addr) (os : List Int), Same H H2 → H p = none → H2 p = some (.lst (os.map V.int)) → os.Perm ns → os.Pairwise (· ≤ ·) → Q (.ref p) H2) : rSorted K [.ref a] H Q :=
  ⟨a, ns, rfl, SqL.of h, l, fun os p pm pw np => q _ p os (fun c u e => by rw [upd_ne (ne_of_none e np)]; exact e) np upd_same pm pw⟩
end
/-! images that may be wrong -/
/-! anchors -/
def KeptB (es fs : List Int) (b : Nat) (x : Int) : Prop := es.getD b 0 = x ∧ fs.getD b 0 = x
instance (es fs : List Int) (b : Nat) (x : Int) : Decidable (KeptB es fs b x) := inferInstanceAs (Decidable (_ ∧ _))
/-- the least of the first blocks that is kept and holds x -/
def fk (es fs : List Int) (x : Int) : Nat → Int
  | 0 => -1
  | k + 1 => if 0 ≤ fk es fs x k then fk es fs x k else if KeptB es fs k x then (k : Int) else -1
def an (es fs : List Int) (x : Int) : Int := if x < 0 then -1 else fk es fs x fs.length
section
variable {es fs : List Int} {x : Int}
theorem fk_bound : ∀ k, fk es fs x k = -1 ∨ (0 ≤ fk es fs x k ∧ fk es fs x k < k ∧ KeptB es fs (fk es fs x k).toNat x)
  | 0 => .inl rfl
  | k + 1 => by
    have ih := fk_bound k
    have e : fk es fs x (k + 1) = if 0 ≤ fk es fs x k then fk es fs x k else if KeptB es fs k x then (k : Int) else -1 := rfl
    rw [e]
    by_cases z : 0 ≤ fk es fs x k
    · rw [if_pos z]
      rcases ih with h | ⟨h1, h2, h3⟩
      · omega
      · exact .inr ⟨h1, by omega, h3⟩
    · rw [if_neg z]
      by_cases y : KeptB es fs k x
      · rw [if_pos y]
        exact .inr ⟨by omega, by omega, by rw [Int.toNat_natCast]; exact y⟩
      · rw [if_neg y]
        exact .inl rfl
/-- the dict of the kept ones -/
structure Kp (es fs : List Int) (i : Nat) (kvs : List (Key × V)) : Prop where
  len : kvs.length ≤ i
  val : ∀ x : Int, valV kvs (Sum.inl x) = if x < 0 ∨ fk es fs x i < 0 then none else some (.int (fk es fs x i))
theorem Kp.nil : Kp es fs 0 [] := ⟨Nat.le_refl _, fun x => by
  rw [if_pos (.inr (by show (-1 : Int) < 0; decide))]
  rfl⟩
theorem Kp.get {kvs : List (Key × V)} (k : Kp es fs fs.length kvs) (x : Int) : (valV kvs (Sum.inl x)).getD (.int (-1)) = .int (an es fs x) := by
  rw [k.val x]
  unfold an
  by_cases z : x < 0
  · rw [if_pos (.inl z), if_pos z]
    rfl
  · rw [if_neg z]
    rcases fk_bound (es := es) (fs := fs) (x := x) fs.length with e | ⟨e, _⟩
    · rw [e, if_pos (.inr (by decide))]
      rfl
    · rw [if_neg (by omega)]
      rfl
end
/-! the lines -/
def chg (es fs : List Int) (n : Nat) : List Nat := (List.range n).filter fun b => !decide (es.getD b 0 = fs.getD b 0)
/-- the first m of the blocks that change have changed -/
structure Half (es fs hs : List Int) (m : Nat) : Prop where
  len : hs.length = fs.length
  at_ : ∀ b, b < fs.length → hs.getD b 0 = if b ∈ (chg es fs fs.length).take m then fs.getD b 0 else es.getD b 0
section
variable {es fs hs : List Int} {m : Nat}
end
end Rv
namespace Rv
open PySem PySem.Spec PyProof.Rows L2
section
variable {σ : L2.St} {H : Hp} {K : PySem.W.Frag} {p : Addr} {xs : List V} {QB : Bool → Hp → Prop} {Q : VK}
end
end Rv
namespace Rv
open PySem PySem.Spec PyProof.Rows L2
/-- // by a positive divisor of some length -/
def CDivV (_ j : Int) : Prop := 0 < j ∧ j ≤ 10 ^ 30
theorem op_fdivV {X : Cx} : OpR X (binaryOp .FloorDiv) (rI CDivV fun i j => .int (i.fdiv j)) := opI fun _ j _ _ _ _ _ hc q => by
  obtain ⟨h0, h1⟩ := hc
  refine floordiv_int (by omega) q (.inl (PyProof.noPylong_of_log2 ?_))
  have z : j.natAbs < 2 ^ 100 := by omega
  have y := (Nat.log2_lt (n := j.natAbs) (k := 100) (by omega)).mpr z
  omega
end Rv
/-! list(zip(a, b)) of two tuples: the pairs stand in the list, so each turn makes a new one -/
namespace Rv
open PySem PySem.Spec PyProof.Rows L2 RZ
section
variable {prog : Program} {w : World} {A : Around} {E : Value → Shared → Prop} {s : Shared}
end
section
variable {X : Cx} {pins : List (Addr × Obj)} {σ : L2.St} {A1 : Around} {a b q z TI TO i1 i2 : Addr} {xs ys : List V} {H0 : Hp} {Rs : Result → Shared → Prop}
end
section
variable {X : Cx}
end
end Rv
/-! t.count(k), min(t) of a tuple of whole numbers; xs.remove(k) that finds k; a tuple that is spread into a tuple or a call -/
namespace Rv
open PySem PySem.Spec PyProof.Rows L2
section
variable {X : Cx}
end
end Rv
/-! rings of a goal, the log over a spare block, and how the rest is spread -/
namespace RL
/-- different numbers below n are at most n -/
theorem nd_len : ∀ (n : Nat) (p : List Nat), p.Nodup → (∀ x ∈ p, x < n) → p.length ≤ n := by
  intro n
  induction n with
  | zero =>
    intro p _ h
    cases p with
    | nil => exact Nat.le_refl _
    | cons x r => exact absurd (h x (List.mem_cons_self ..)) (Nat.not_lt_zero _)
  | succ n ih =>
    intro p nd h
    by_cases k : n ∈ p
    · have e := List.length_erase_of_mem k
      have := ih (p.erase n) (nd.erase n) fun x hx => by
        have h1 := h x (List.mem_of_mem_erase hx)
        have h2 : x ≠ n := fun z => by rw [z] at hx; exact absurd hx (nd.not_mem_erase)
        omega
      have : 0 < p.length := List.length_pos_of_mem k
      omega
    · have := ih p nd fun x hx => by
        have h1 := h x hx
        have h2 : x ≠ n := fun z => k (z ▸ hx)
        omega
      omega
variable {g : Nat → Nat} {n : Nat}
def fol (g : Nat → Nat) : Nat → List Nat → List Nat
  | 0, p => p
  | k + 1, p => if g (p.getLastD 0) ∈ p then p else fol g k (p ++ [g (p.getLastD 0)])
structure Pth (g : Nat → Nat) (n b : Nat) (p : List Nat) : Prop where
  hd : p[0]? = some b
  nd : p.Nodup
  lt : ∀ x ∈ p, x < n
  st : ∀ i x y, p[i]? = some x → p[i + 1]? = some y → y = g x
theorem Pth.len {b : Nat} {p : List Nat} (P : Pth g n b p) : p.length ≤ n := nd_len n p P.nd P.lt
def F (g : Nat → Nat) (n b : Nat) : List Nat := fol g n [b]
def IsR (g : Nat → Nat) (p : List Nat) : Prop := 1 < p.length ∧ g (p.getLastD 0) = p.headD 0 ∧ ∀ x ∈ p, p.headD 0 ≤ x
instance {g : Nat → Nat} {p : List Nat} : Decidable (IsR g p) := by unfold IsR; exact inferInstance
/-- a ring: its way, and each block in it leads into it -/
structure Rng (g : Nat → Nat) (n : Nat) (p : List Nat) : Prop where
  b : Pth g n (p.headD 0) p
  r : IsR g p
/-! counts -/
/-! the goal -/
structure GOk (gs : List Int) : Prop where
  l1 : 1 ≤ gs.length
  l12 : gs.length ≤ 12
  en : ∀ e ∈ gs, 0 ≤ e ∧ e < gs.length
def gn (gs : List Int) (b : Nat) : Nat := (gs.getD b 0).toNat
variable {gs : List Int}
def One (gs : List Int) (p : List Nat) : Prop := ∀ b ∈ p, gs.count (b : Int) = 1
instance {gs : List Int} {p : List Nat} : Decidable (One gs p) := by unfold One; exact inferInstance
def ways (gs : List Int) (i : Nat) : List (List Nat) := (List.range i).map (F (gn gs) gs.length)
def rgs (gs : List Int) (i : Nat) : List (List Nat) := (ways gs i).filter fun p => decide (IsR (gn gs) p)
def clo (gs : List Int) (i : Nat) : List (List Nat) := (rgs gs i).filter fun p => decide (One gs p)
abbrev clos (gs : List Int) : List (List Nat) := clo gs gs.length
abbrev inr (gs : List Int) : List Nat := (clos gs).flatten
def mov (gs : List Int) (i : Nat) : List Nat := (List.range i).filter fun b => decide (gn gs b ≠ b)
def rst (gs : List Int) : List Nat := (mov gs gs.length).filter fun b => decide (b ∉ inr gs)
/-! what a log of pairs (target, source) does -/
def ap (c : Nat → Nat) (q : Nat × Nat) : Nat → Nat := fun b => if b = q.1 then c q.2 else c b
def run (c : Nat → Nat) (qs : List (Nat × Nat)) : Nat → Nat := qs.foldl ap c
/-- the pairs of a way, its end from s -/
def tp : Nat → List Nat → Nat → List (Nat × Nat)
  | a, [], s => [(a, s)]
  | a, x :: r, s => (a, x) :: tp x r s
def VP (n : Nat) (q : Nat × Nat) : Prop := q.1 < n ∧ q.2 < n ∧ q.1 ≠ q.2
/-! the rest is spread -/
def rows0 (gs : List Int) (s : Nat) : List (Nat × Nat) := (clos gs).flatMap fun p => tp s p s
def c0 (gs : List Int) (s : Nat) : Nat → Nat := run id (rows0 gs s)
structure Sp (gs : List Int) (s : Nat) (W : List Nat) (h : Nat → Nat) (T : List (Nat × Nat)) : Prop where
  nd : W.Nodup
  sub : ∀ b ∈ W, b ∈ rst gs
  don : ∀ b ∈ rst gs, b ∉ W → run (c0 gs s) T b = gn gs b
  oth : ∀ b, b < gs.length → b ∉ rst gs → run (c0 gs s) T b = gn gs b
  hol : ∀ b ∈ W, run (c0 gs s) T (h (gn gs b)) = gn gs b
  hom : ∀ v, v < gs.length → h v = v ∨ (h v ∈ rst gs ∧ h v ∉ W)
  prc : ∀ b ∈ rst gs, b ∉ W → h (gn gs b) ∈ rst gs ∧ h (gn gs b) ∉ W
  len : T.length + W.length = (rst gs).length
  val : ∀ q ∈ T, VP gs.length q
end RL
/-! own error classes without fields; readings of the steps of Nw and Nx -/
namespace Rv
open PySem PySem.Spec PyProof.Rows L2
abbrev vBase : List Value := [.type "ValueError", .type "Exception", .type "BaseException", .type "object"]
/-- an error class without a maker of its own -/
structure Err0 (K : PySem.W.Frag) (mg : Str → Option Value) (C : Addr) (x : Str) : Prop where
  gC : mg x = some (.ref C)
  q : PySem.W.excIn K C vBase "ValueError.__new__" = true
  kC : PySem.W.keepIn K (.ref C) = true
  bC : PySem.W.subIn K (.ref C) (.type "BaseException") = some true
  tC : PySem.W.typeIn K (.ref C) = some (.type "type")
  ec : ExcC K C
  icl : PySem.W.isClsIn K C = true
section
variable {X : Cx} {C : Addr} {bmB : List Value} {B newId initId : String}
end
section
variable {X : Cx} {K : PySem.W.Frag} {o e : Expr} {to te : TE} {apos cpos : Pos}
/-- a tuple of whole numbers whose object has no dict -/
def GT (H : Hp) (a : Addr) (gs : List Int) : Prop := ∃ o : Obj, H a = some (.frz o (.tup (gs.map V.int))) ∧ o.dict = none
theorem GT.sq {H : Hp} {a : Addr} {gs : List Int} (g : GT H a gs) : SqT K H a (gs.map V.int) := by
  obtain ⟨o, h, _⟩ := g
  exact .inl (.inr ⟨o, h⟩)
theorem GT.same {H H' : Hp} {a : Addr} {gs : List Int} (g : GT H a gs) (S : Same H H') : GT H' a gs := by
  obtain ⟨o, h, d⟩ := g
  exact ⟨o, S _ _ h, d⟩
end
/-- tuple(list): the object is known -/
def rTupF (K : PySem.W.Frag) : List V → Hp → VK → Prop := fun xs H Q => ∃ (p : Addr) (ns : List Int), xs = [.ref p] ∧ SqL K H p (ns.map V.int) ∧ ∀ l (o : Obj), H l = none → o.dict = none → Q (.ref l) (upd H l (.frz o (.tup (ns.map V.int))))
theorem call_tupF {X : Cx} : CallR X (.type "tuple") (rTupF X.K) := by
  intro pins s σ H xs us Q I r h
  obtain ⟨p, ns, rfl, hq, q⟩ := h
  rw [Vals.ref1 r]
  obtain ⟨its, r', pl, hz⟩ := I.list hq
  have hlen := r'.length
  refine call_tuple_list pl.isList (fun h' kp => ?_) (by simp only [List.size_toArray] <;> omega)
  have I1 : Inv X pins σ H { s with heap := h' } := I.kept (t' := s.toks) kp
  have I2 := I1.laid (t' := s.toks) (h' := h'.push { cls := .type "tuple", data := .seq its.toArray }) (a := h'.objs.size) (o := .frz { cls := .type "tuple", data := .seq its.toArray } (.tup (ns.map V.int))) (fun b o e => Heap.get?_push_of_some _ e) (Nat.le_refl _)
    (show ObjOk X.prog X.w _ _ _ (.frz { cls := .type "tuple", data := .seq its.toArray } (.tup (ns.map V.int))) from ⟨Heap.get?_push_size _ rfl, hz, its, r', IsTup.new _ _⟩)
  exact ⟨.ref h'.objs.size, _, I2, rfl, q _ _ (I1.hok.fresh (Nat.le_refl _)) rfl⟩
section
variable {K : PySem.W.Frag} {σ : L2.St} {H : Hp} {Q : VK} {p : Addr} {gs : List Int} {R : It → Hp → Prop}
theorem rd_lenG (g : GT H p gs) (q : Q (.int (gs.length : Nat)) H) : rLenQ K [.ref p] H Q := ⟨p, _, rfl, .inr g.sq, by rw [List.length_map]; exact q⟩
theorem rd_tupF (h : H p = some (.lst (gs.map V.int))) (q : ∀ H2 l, Same H H2 → H l = none → GT H2 l gs → Q (.ref l) H2) : rTupF K [.ref p] H Q :=
  ⟨p, gs, rfl, .of h, fun l o nl d => q _ l (same_new (Same.refl _) nl) nl ⟨o, upd_same, d⟩⟩
end
section
variable {K : PySem.W.Frag} {σ : L2.St} {H : Hp} {Q : VK}
end
open RL
def niz (l : List Nat) : List Int := l.map fun b : Nat => (b : Int)
def nvs (l : List Nat) : List V := (niz l).map V.int
theorem niz_len (l : List Nat) : (niz l).length = l.length := List.length_map ..
theorem nvs_len (l : List Nat) : (nvs l).length = l.length := by unfold nvs; rw [List.length_map, niz_len]
theorem mem_niz {b : Nat} {l : List Nat} : (b : Int) ∈ niz l ↔ b ∈ l := by
  unfold niz
  rw [List.mem_map]
  exact ⟨fun ⟨x, hx, e⟩ => (Int.ofNat.inj e) ▸ hx, fun h => ⟨b, h, rfl⟩⟩
theorem niz_of {k : Int} {l : List Nat} (h : k ∈ niz l) : ∃ b : Nat, k = (b : Int) ∧ b ∈ l := by
  obtain ⟨b, hb, e⟩ := List.mem_map.mp h
  exact ⟨b, e.symm, hb⟩
theorem nvs_app (a b : List Nat) : nvs (a ++ b) = nvs a ++ nvs b := by unfold nvs niz; rw [List.map_append, List.map_append]
theorem nvs_get {l : List Nat} {i b : Nat} (h : l[i]? = some b) : (nvs l)[i]? = some (V.int (b : Int)) := by unfold nvs niz; rw [List.getElem?_map, List.getElem?_map, h]; rfl
theorem nvs_in {b : Nat} {l : List Nat} : inV (V.int (b : Int)) (nvs l) = decide (b ∈ l) := by
  unfold nvs
  rw [inV_ints]
  by_cases h : b ∈ l
  · rw [decide_eq_true h, decide_eq_true (mem_niz.mpr h)]
  · rw [decide_eq_false h, decide_eq_false (fun z => h (mem_niz.mp z))]
theorem nvs_flat (l : List Nat) : (nvs l).all flatV = true := by
  unfold nvs
  rw [List.all_eq_true]
  intro x hx
  obtain ⟨k, _, rfl⟩ := List.mem_map.mp hx
  rfl
/-- rows of block numbers -/
abbrev NRows (H : Hp) (bs : List Addr) (ps : List (List Nat)) : Prop := TupsAt H bs (ps.map nvs)
theorem NRows.len {H : Hp} {bs : List Addr} {ps : List (List Nat)} (t : NRows H bs ps) : bs.length = ps.length := by rw [t.1, List.length_map]
/-! a comprehension with two clauses over a list of tuples -/
def Lc2 (J : It) (g : TG) (tt : TT) (wi1 : TI) (g1 : TG) (tt1 : TT) (te : TE) (vs vs1 : List Nat) (σ : L2.St) (H1 : Hp) (Q : VK) : Prop := ∀ D, H1 D = none → ∃ W : Nat → Nat → Hp → Prop, (∃ m, W 0 m (upd H1 D (.lst []))) ∧ ∀ i m H, W i m H →
  (J.stop i H ∧ Q (.ref D) H) ∨ (J.go i H ∧ ∃ Nx : Hp → Prop, (∀ H', Nx H' → ∃ m', m' < m ∧ W (i + 1) m' H') ∧ ∀ x H', J.yld i H x H' → g x (wipe σ vs) H' fun σ2 H2 => wipe σ2 vs = wipe σ vs ∧ tt σ2 H2 fun b H3 =>
    if b = true then wi1 σ2 H3 fun J1 H4 => ∃ W1 : Nat → Nat → Hp → Prop, (∃ m, W1 0 m H4) ∧ ∀ j k H, W1 j k H →
      (J1.stop j H ∧ Nx H) ∨ (J1.go j H ∧ ∃ Nx1 : Hp → Prop, (∀ H', Nx1 H' → ∃ k', k' < k ∧ W1 (j + 1) k' H') ∧ ∀ x H', J1.yld j H x H' → g1 x (wipe σ2 vs1) H' fun σ3 H5 => wipe σ3 vs1 = wipe σ2 vs1 ∧ tt1 σ3 H5 fun b H6 =>
        if b = true then te σ3 H6 fun y H7 => ∃ acc, H7 D = some (.lst acc) ∧ acc.length < sizeLine ∧ Nx1 (upd H7 D (.lst (acc ++ [y]))) else Nx1 H6)
    else Nx H3)
theorem rd_lc2 {wi wi1 : TI} {g g1 : TG} {tt tt1 : TT} {te : TE} {vs vs1 : List Nat} {σ : L2.St} {H : Hp} {Q : VK} (q : wi σ H fun J H1 => Lc2 J g tt wi1 g1 tt1 te vs vs1 σ H1 Q) : tLc2 wi g tt wi1 g1 tt1 te vs vs1 σ H Q := q
end Rv
/-! no log of copies to a goal is shorter than the blocks that change and the closed rings together (for k34) -/
namespace RL
variable {gs : List Int}
end RL
/-! {t: v}, t a tuple -/
namespace Rv
open PySem PySem.Spec PyProof.Rows L2
section
variable {X : Cx} {k v : Expr} {tk tv : TE} {pos : Pos}
end
end Rv
/-! the search by breadth of k34: the least number of copies to each image -/
namespace RL
def Reach (n k : Nat) (im : List Nat) : Prop := ∃ qs : List (Nat × Nat), qs.length = k ∧ (∀ q ∈ qs, q.1 < n ∧ q.2 < n) ∧ im = (List.range n).map (run id qs)
theorem Reach.len {n k : Nat} {im : List Nat} (h : Reach n k im) : im.length = n := by
  obtain ⟨_, _, _, e⟩ := h
  rw [e, List.length_map, List.length_range]
/-! the least number of a goal -/
end RL
/-! a tuple that is known to have no dict as a key -/
namespace Rv
open PySem PySem.Spec PyProof.Rows L2
section
variable {X : Cx} {i o : Expr} {ty td : TE} {pos : Pos}
end
/-! t + u, empty ones too -/
def rCat3 (K : PySem.W.Frag) : R2 := fun x y H Q => ∃ (a b : Addr) (xs ys : List V), x = .ref a ∧ y = .ref b ∧ SqT K H a xs ∧ SqT K H b ys ∧ xs.length + ys.length ≤ sizeLine ∧
  (xs = [] → Q (.ref b) H) ∧ (xs ≠ [] → ys = [] → Q (.ref a) H) ∧ (xs ≠ [] → ys ≠ [] → ∀ p, H p = none → Q (.ref p) (upd H p (.tup (xs ++ ys))))
theorem op_cat3 {X : Cx} : OpR X (binaryOp .Add) (rCat3 X.K) := by
  intro pins s σ H x y v u Q I rx ry h
  obtain ⟨a, b, xs, ys, rfl, rfl, ha, hb, hz, q0, q1, q2⟩ := h
  by_cases ne : xs = []
  · subst ne
    cases rx
    cases ry
    obtain ⟨its, r1, p1, _⟩ := I.tuple ha
    obtain ⟨its2, r2, p2, _⟩ := I.tuple hb
    cases r1
    obtain ⟨⟨cls, dd, data, sl⟩, ho, hc, n, hd⟩ := id p1
    obtain ⟨⟨cls2, dd2, data2, sl2⟩, ho2, hc2, n2, hd2⟩ := id p2
    simp only at hc hd hc2 hd2
    subst hc hd hc2 hd2
    exact concat_meets ⟨_, ho, rfl⟩ ⟨_, ho2, rfl⟩ noFill_tuple_add seq_tuple_add PySem.F.slot_tuple_add PySem.F.entry_tuple_add (PySem.F.args_tuple_add_2 _ _) (tuple_addW0 a b _ _ n n2 dd dd2 sl sl2 rfl) ⟨ho, ho2, ⟨.ref b, H, I, rfl, q0 rfl⟩⟩
  · exact op_catT pins s σ H _ _ v u Q I rx ry ⟨a, b, xs, ys, rfl, rfl, ha, hb, ne, hz, fun e => q1 ne e, fun e => q2 ne e⟩
theorem rd_cat3 {K : PySem.W.Frag} {H : Hp} {Q : VK} {a b : Addr} {xs ys : List V} (h : H a = some (.tup xs)) (h2 : H b = some (.tup ys)) (l : xs.length + ys.length ≤ 1000) (q : ∀ H2 p, Same H H2 → H2 p = some (.tup (xs ++ ys)) → Q (.ref p) H2) : rCat3 K (.ref a) (.ref b) H Q :=
  ⟨a, b, xs, ys, rfl, rfl, .of h, .of h2, Nat.le_of_lt (small1000 (by omega)), fun e => q H b (Same.refl _) (by rw [e]; exact h2), fun _ e => q H a (Same.refl _) (by rw [e, List.append_nil]; exact h), fun _ _ p np => q _ p (same_new (Same.refl _) np) upd_same⟩
end Rv
/-! the table of k34: images and numbers -/
namespace Rv
open PySem PySem.Spec PyProof.Rows L2 RL
theorem niz_inj {a b : List Nat} (h : niz a = niz b) : a = b := by
  unfold niz at h
  exact List.map_inj_right (f := fun x : Nat => (x : Int)) (fun x y e => Int.ofNat.inj e) |>.mp h
end Rv
/-! the mathematics of k36: steps between images -/
namespace RS
open RL
/-! copies -/
/-! logs -/
/-! all images -/
end RS
/-! for k36: dicts of images, list(d), zip of two tuples, rows by two clauses -/
namespace Rv
open PySem PySem.Spec PyProof.Rows L2 RL RS
section
variable {H H' : Hp} {d b l : Addr} {ks : List (List Nat)} {x : List Nat} {Q : VK} {R : Hp → Prop} {v : V} {o : HO}
/-! list(d) -/
end
/-! zip of two tuples -/
section
variable {K : PySem.W.Frag} {σ : L2.St} {H : Hp} {a b : Addr} {xs ys : List V} {R : It → Hp → Prop}
def ZpA (K : PySem.W.Frag) (R : It → Hp → Prop) (vs : List V) (H1 : Hp) : Prop := ∃ a b xs ys, vs = [.ref a, .ref b] ∧ ((SqL K H1 a xs ∧ SqL K H1 b ys ∧ R (Itz K a b) H1) ∨ (SqT K H1 a xs ∧ SqT K H1 b ys ∧ R (RZ.ItzT K a b) H1))
theorem pi_zpA {X : Cx} {e e2 : Expr} {ta : TA} {p pos tpos : Pos} {elts : List Expr} {kk : Nat} (hK : X.K = K) (hg : Gl X "zip") (hm : X.mg "zip" = none) (ha : PA X [e, e2] ta)
    (hs : starEach [e, e2] X.env = (false, eval e X.env) :: starEach [e2] X.env := by rfl) (hpl : (backTo pos (starEach [e2] X.env)).any (·.1) = false := by rfl) :
    PI X (.Tuple elts kk tpos) (.Call (.Name "zip" p) [e, e2] [] pos) (RZ.iZipA K ta) := by
  subst hK
  exact RZ.pi_zipA hg hm ha hs hpl
theorem rd_iZpA {ta : TA} (q : ta σ H fun vs H1 => ZpA K R vs H1) : RZ.iZipA K ta σ H R := q
theorem rd_ZpT (h : H a = some (.tup xs)) (h2 : H b = some (.tup ys)) (q : R (RZ.ItzT K a b) H) : ZpA K R [.ref a, .ref b] H := ⟨a, b, xs, ys, rfl, .inr ⟨.of h, .of h2, q⟩⟩
theorem walk_zipT {n : Nat} (hn : n = min xs.length ys.length) : Walk (RZ.ItzT K a b) n (fun H => SqT K H a xs ∧ SqT K H b ys) (YPair (fun i => xs[i]?) (fun i => ys[i]?)) := by
  subst hn
  refine ⟨fun i _ hi q => ?_, fun _ q => ⟨xs, ys, q.1, q.2, by omega⟩, fun i H v H' _ q y => ?_⟩
  · have h1 : i < xs.length := by omega
    have h2 : i < ys.length := by omega
    exact ⟨xs, ys, xs[i], ys[i], q.1, q.2, by simp [h1], by simp [h2]⟩
  · obtain ⟨T, x, y, h1, h2, h3, h4, h5⟩ := y
    exact ⟨T, x, y, h1, h2, h3, h4 _ q.1, h5 _ q.2⟩
end
/-! a comprehension over rows and numbers -/
end Rv
/-! for k36: equality of images, common places, filters, what a helper leaves -/
namespace Rv
open PySem PySem.Spec PyProof.Rows L2 RL RS
theorem eqv_intsT : ∀ (a b : List Int), PyData.eqv (.tuple (a.map PyData.int)) (.tuple (b.map PyData.int)) = decide (a = b)
  | [], [] => rfl
  | [], _ :: _ => rfl
  | _ :: _, [] => rfl
  | x :: r, y :: t => by
    have ih := eqv_intsT r t
    have e : PyData.eqv (.tuple ((x :: r).map PyData.int)) (.tuple ((y :: t).map PyData.int)) = (decide (x = y) && PyData.eqv (.tuple (r.map PyData.int)) (.tuple (t.map PyData.int))) := rfl
    rw [e, ih, Bool.eq_iff_iff, Bool.and_eq_true, decide_eq_true_eq, decide_eq_true_eq, decide_eq_true_eq, List.cons.injEq]
theorem shT (xs : List Int) : SeqAt.shaped (.tuple (xs.map PyData.int)) = true := by
  obtain ⟨a1, a2⟩ := lay_ints xs
  unfold SeqAt.shaped
  rw [Bool.and_eq_true]
  refine ⟨a1, decide_eq_true ?_⟩
  show PyData.depthAll (xs.map PyData.int) + 1 ≤ 64
  omega
theorem rd_eqT {K : PySem.W.Frag} {H : Hp} {Q : VK} {p p2 : Addr} {a b : List Nat} (h : H p = some (.tup (nvs a))) (h2 : H p2 = some (.tup (nvs b))) (q : Q (.bl (decide (a = b))) H) : rEqD K (.ref p) (.ref p2) H Q := by
  refine ⟨_, _, .tup (SqT.of h) (dp_ints (niz a)), .tup (SqT.of h2) (dp_ints (niz b)), shT _, shT _, ?_⟩
  rw [eqv_intsT]
  have : decide (niz a = niz b) = decide (a = b) := by
    rw [Bool.eq_iff_iff, decide_eq_true_eq, decide_eq_true_eq]
    exact ⟨niz_inj, fun e => by rw [e]⟩
  rw [this]
  exact q
/-! common places -/
/-! filters -/
/-! what a helper leaves that may change one list -/
end Rv
/-! own classes: facts, makers, methods, static methods, fields -/
namespace Rv
open PySem PySem.Spec PyProof.Rows L2
/-- what of a class is told once -/
structure ClT (K : PySem.W.Frag) (mg : Str → Option Value) (C : Addr) (x : Str) : Prop where
  g : mg x = some (.ref C)
  kp : PySem.W.keepIn K (.ref C) = true
  cls : Cls K C
/-- its maker -/
structure IDef (K : PySem.W.Frag) (C : Addr) (qual : Str) (st : Stmt) (ps : List Str) (f : Addr) (fd : FuncData) : Prop where
  F : Fun K "__init__" qual st f fd
  b : Binds K fd ps []
  mkr : L2.Mk K C f
/-- a method -/
structure MDef (K : PySem.W.Frag) (C : Addr) (m qual : Str) (st : Stmt) (ps : List Str) (f : Addr) (fd : FuncData) : Prop where
  F : Fun K m qual st f fd
  b : Binds K fd ps []
  m : Meth K C m f
/-- a static method -/
structure SMet (K : PySem.W.Frag) (C : Addr) (m : Str) (p g : Addr) : Prop where
  ga : PySem.W.specialIn K (.ref C) "__getattribute__" = some (some (.builtin "type.__getattribute__"))
  rd : PySem.W.readsIn K C (.type "type") = true
  at_ : PySem.W.findCls K (.ref C) (.type "type") m = some (.get (.builtin "staticmethod.__get__") (.ref p) .none (.ref C))
  rc : ∃ rest, PySem.W.recIn K p "staticmethod" = some (.ref g :: rest)
  kp : PySem.W.keepIn K (.ref g) = true
structure SDef (K : PySem.W.Frag) (C : Addr) (m qual : Str) (st : Stmt) (ps : List Str) (f : Addr) (fd : FuncData) : Prop where
  F : Fun K m qual st f fd
  b : Binds K fd ps []
  s : ∃ p, SMet K C m p f
def tSMeth (C : Addr) (sp : Sp) (E : XK) (ta : TE) (t : TA) : TE := fun σ H Q => ta σ H fun x H1 => x = .ref C ∧ t σ H1 fun vs H2 => sp (vs ++ []) H2 Q E
section
variable {X : Cx} {CX : CXT} {k : Nat} {f C p g : Addr} {fd : FuncData} {ps : List Str} {sp : Sp} {E : XK} {m : Str} {pos apos : Pos} {e o : Expr} {es : List Expr} {ta : TE} {t : TA} {pl : Sem Bool}
theorem pe_smeth (he : PE X o ta) (c : SMet X.K C m p g) (F : FnOk X.prog X.w X.K X.mg X.base CX k g fd ps sp) (hr : Room k X.A) (hb : Binds X.K fd ps []) (hx : Passes CX X E) (ha : PA X (e :: es) t)
    (hst : starEach (e :: es) X.env = (false, eval e X.env) :: starEach es X.env := by rfl) (hpl : (backTo pos (starEach es X.env)).any (·.1) = false := by rfl)
    (ht : eval (.Call (.Attribute o m apos) (e :: es) [] pos) X.env = (do
      let ov ← eval o X.env
      standAt apos.atName
      let (f, first) ← holding [ov] (getMethod ov m pl)
      callWith pos f first (backTo pos (starEach (e :: es) X.env)) (backToKw pos (keywordEach [] X.env))) := by rfl) :
    PE X (.Call (.Attribute o m apos) (e :: es) [] pos) (tSMeth C sp E ta t) := by
  refine ⟨fun pins s σ H Q I h => ?_⟩
  refine PySem.W.methodCall_KW (pl := pl) (thn (he.run pins s σ H _ I h) fun u s1 ⟨x, H1, I1, rx, ex, q⟩ => ?_) ht
  subst ex
  obtain rfl : u = Value.ref C := rx
  obtain ⟨rest, hp⟩ := c.rc
  refine PySem.W.method_cls I1.kIn c.ga (PySem.W.cls_bind I1.kIn c.rd c.at_ (wpAny_call (PySem.W.sm_get (s := { s1 with toks := s1.toks + 1 }) I1.kIn hp (PySem.W.handed_on rfl ?_))))
  have I2 := I1.tok (s1.toks + 1)
  refine PySem.W.callWith_K (first := []) (h₀ := X.base) I2.ok.mod.kin c.kp (thn (ha.run pos pins _ σ H1 _ I2 q) fun us s2 ⟨vs, H2, I3, r, q2⟩ => ⟨I3.kIn, ?_⟩) hst hpl
  have := run_fn (us := us) (vs := vs) (dvs := []) (ds := []) F hr hb .nil hx I3 r q2
  exact this
theorem pe_fldK {K : PySem.W.Frag} {f : Str} (hK : X.K = K) (he : PE X e ta) (hb : attributeBase e f X.env (eval e X.env) = eval e X.env) : PE X (.Attribute e f pos) (tFld K ta f) := by subst hK; exact pe_fld he hb
theorem pe_conK {K : PySem.W.Frag} {f : Str} (hK : X.K = K) (he : PE X e ta) (hb : attributeBase e f X.env (eval e X.env) = eval e X.env) : PE X (.Attribute e f pos) (tCon K ta f) := by subst hK; exact pe_con he hb
theorem pe_cvalK {K : PySem.W.Frag} {f : Str} (hK : X.K = K) (he : PE X e ta) (hb : attributeBase e f X.env (eval e X.env) = eval e X.env) : PE X (.Attribute e f pos) (ClX.tCVal K ta f) := by subst hK; exact ClX.pe_cval he hb
theorem ps_fldK {K : PySem.W.Frag} {f : Str} {value : Expr} {pos' : Pos} {tv : TE} (hK : X.K = K) (ha : PE X o ta) (hv : PE X value tv) (hs : swapsWith value (some (.Attribute o f pos')) pos.line X.env = pure false) : PS X (.Assign [.Attribute o f pos'] value pos) (sFld K ta tv f) := by subst hK; exact ps_fld ha hv hs
/-- one of two classes -/
def tAlt (t u : TE) : TE := fun σ H Q => t σ H Q ∨ u σ H Q
theorem pe_alt {t u : TE} (h1 : PE X e t) (h2 : PE X e u) : PE X e (tAlt t u) := ⟨fun pins s σ H Q I h => h.elim (h1.run pins s σ H Q I) (h2.run pins s σ H Q I)⟩
end
section
variable {K : PySem.W.Frag} {mg : Str → Option Value} {σ : L2.St} {H : Hp} {Q : VK} {C a dx : Addr} {fs : List (Str × V)} {f m : Str} {v : V} {sp : Sp} {E : XK} {ta tv : TE} {t : TA}
/-! readings -/
def Fd (K : PySem.W.Frag) (f : Str) (Q : VK) : VK := fun x H1 => ∃ a C dx fs v, x = .ref a ∧ H1 a = some (.ins C dx fs) ∧ Cls K C ∧ NoAttr K C f ∧ fs.lookup f = some v ∧ Q v H1
theorem rd_fld (q : ta σ H fun x H1 => Fd K f Q x H1) : tFld K ta f σ H Q := q
theorem rd_Fd (h : H a = some (.ins C dx fs)) (c : Cls K C) (n : NoAttr K C f) (l : fs.lookup f = some v) (q : Q v H) : Fd K f Q (.ref a) H := ⟨a, C, dx, fs, v, rfl, h, c, n, l, q⟩
def Cn (K : PySem.W.Frag) (f : Str) (Q : VK) : VK := fun x H1 => ∃ a C dx fs v u, x = .ref a ∧ H1 a = some (.ins C dx fs) ∧ Cls K C ∧ Con K C f v u ∧ fs.lookup f = none ∧ Q v H1
theorem rd_con (q : ta σ H fun x H1 => Cn K f Q x H1) : tCon K ta f σ H Q := q
theorem rd_Cn {u : Value} (h : H a = some (.ins C dx fs)) (c : Cls K C) (n : Con K C f v u) (l : fs.lookup f = none) (q : Q v H) : Cn K f Q (.ref a) H := ⟨a, C, dx, fs, v, u, rfl, h, c, n, l, q⟩
def Sf (K : PySem.W.Frag) (f : Str) (y : V) (R : Hp → Prop) (x : V) (H2 : Hp) : Prop := ∃ a C dx fs, x = .ref a ∧ H2 a = some (.ins C dx fs) ∧ Cls K C ∧ NoAttr K C f ∧ fs.length < 1000 ∧ R (upd H2 a (.ins C dx (putF f y fs)))
theorem rd_sfld {D : Ends} (q : tv σ H fun y H1 => ta σ H1 fun x H2 => Sf K f y (fun H3 => D.nx σ H3) x H2) : sFld K ta tv f D σ H := q
theorem rd_Sf {y : V} {R : Hp → Prop} (h : H a = some (.ins C dx fs)) (c : Cls K C) (n : NoAttr K C f) (l : fs.length < 1000) (q : R (upd H a (.ins C dx (putF f y fs)))) : Sf K f y R (.ref a) H := ⟨a, C, dx, fs, rfl, h, c, n, l, q⟩
def MtI (C : Addr) (m : Str) (sp : Sp) (E : XK) (t : TA) (σ : L2.St) (Q : VK) : VK := fun x H1 => ∃ a dx fs, x = .ref a ∧ H1 a = some (.ins C dx fs) ∧ fs.lookup m = none ∧ t σ H1 fun vs H2 => sp (x :: (vs ++ [])) H2 Q E
theorem rd_meth (q : ta σ H fun x H1 => MtI C m sp E t σ Q x H1) : tMeth C m sp [] E ta t σ H Q := q
theorem rd_Mt (h : H a = some (.ins C dx fs)) (l : fs.lookup m = none) (q : t σ H fun vs H2 => sp (.ref a :: vs) H2 Q E) : MtI C m sp E t σ Q (.ref a) H :=
  ⟨a, dx, fs, rfl, h, l, by simp only [List.append_nil]; exact q⟩
/-- a new instance, ahead of its maker -/
def Nw_ (C : Addr) (sp : Sp) (E : XK) (Q : VK) (vs : List V) (H1 : Hp) : Prop := ∀ x dx, H1 x = none → H1 dx = none → dx ≠ x → sp (.ref x :: (vs ++ [])) (upd (upd H1 dx (.own x)) x (.ins C dx [])) (fun v H2 => v = .non ∧ Q (.ref x) H2) E
theorem rd_make (q : t σ H fun vs H1 => Nw_ C sp E Q vs H1) : tMake C sp [] E t σ H Q := q
theorem rd_Nw {vs : List V} (q : ∀ H1 x dx, Same H H1 → H x = none → H dx = none → dx ≠ x → H1 x = some (.ins C dx []) → sp (.ref x :: vs) H1 (fun v H2 => v = .non ∧ Q (.ref x) H2) E) : Nw_ C sp E Q vs H := fun x dx nx nd ne => by
  rw [List.append_nil]
  exact q _ x dx (same_new (same_new (Same.refl _) nd) (by rw [upd_ne (Ne.symm ne)]; exact nx)) nx nd ne upd_same
def Cv (K : PySem.W.Frag) (f : Str) (Q : VK) : VK := fun x H1 => ∃ C mc v u, x = .ref C ∧ ClX.CRead K C mc ∧ ClX.CVal K C mc f v u ∧ Q v H1
theorem rd_cval (q : ta σ H fun x H1 => Cv K f Q x H1) : ClX.tCVal K ta f σ H Q := q
theorem rd_Cv {mc u : Value} (r : ClX.CRead K C mc) (c : ClX.CVal K C mc f v u) (q : Q v H) : Cv K f Q (.ref C) H := ⟨C, mc, v, u, rfl, r, c, q⟩
theorem rd_smeth (q : ta σ H fun x H1 => x = .ref C ∧ t σ H1 fun vs H2 => sp (vs ++ []) H2 Q E) : tSMeth C sp E ta t σ H Q := q
theorem same_ins {H0 H1 : Hp} {x : Addr} {o : HO} (S : Same H0 H1) (nx : H0 x = none) : Same H0 (upd H1 x o) := same_mut S nx
end
/-- an object that is no list stays -/
theorem Wg.obj {B : Box} {H0 H : Hp} {a : Addr} {o : HO} (w : Wg B H0 H) (h : H0 a = some o) (n : ∀ xs, o ≠ .lst xs) : H a = some o := w.keep a o (fun k => by
  obtain ⟨ys, e⟩ := B.live _ w.i0 a (B.sub _ k)
  rw [h] at e
  exact n ys (Option.some.inj e)) h
end Rv
/-! sorted(t), t a tuple of whole numbers -/
namespace Rv
open PySem PySem.Spec PyProof.Rows L2 PySem.Calls
section
variable {prog : Program} {w : World} {A : Around} {E : Value → Shared → Prop} {s : Shared}
theorem gatherT {tp : Addr} {us : List Value} {Q : List Value → Shared → Prop} (it : IsTup s.heap tp us.toArray) (few : us.length ≤ 1000)
    (k : Q us { s with heap := (s.heap.push (seqObj "list" #[] 0)).update s.heap.objs.size (Obj.mapSeq (· ++ us.toArray)) }) :
    wpAny (model prog w) A (collect (.ref tp)) Q E s := by
  obtain ⟨ob, hob, hcl, m, hda⟩ := id it
  have room : us.length ≤ sizeLine := Nat.le_of_lt (small1000 few)
  unfold collect
  refine wpAny_bind (wpAny_runValue (codeAny_builtin entry_proto_collect' ?_))
  show wpAny (model prog w) _ (do again (.builtin "list.__iadd__" ⟨[← newList [], .ref tp], []⟩)) _ _ s
  refine wpAny_bind (wpAny_newList (wpAny_pure ⟨Code.quiet_builtin _ (by decide +kernel), codeAny_builtin entry_list_iadd' ?_⟩))
  have hob2 : (s.heap.push (seqObj "list" #[] 0)).get? tp = some ob := Heap.get?_push_of_some _ hob
  show wpAny (model prog w) _ (Builtin.List.listExtendWith (.ref s.heap.objs.size) (.ref tp) (.ref s.heap.objs.size)) _ _ { s with heap := s.heap.push (seqObj "list" #[] 0) }
  unfold Builtin.List.listExtendWith
  have isT : (Value.type "tuple" == Value.type "tuple") = true := rfl
  refine wpAny_bind (wpAny_typeOf (T := "tuple") ⟨ob, hob2, hcl⟩ ?_)
  rw [if_pos (by rw [isT, Bool.or_true])]
  refine wpAny_bind (listItems_at hob2 hda ?_)
  refine wpAny_bind (listItems_at (n := 0) (xs := #[]) (Heap.get?_push_size _ rfl) rfl ?_)
  rw [if_neg (by simp)]
  have grow : ((#[] : Array Value) ++ us.toArray).size ≤ sizeLine + 1 := by simp only [Array.size_append, List.size_toArray, List.length_nil]; omega
  refine wpAny_bind (listUpdate_at (n := 0) (xs := #[]) (Heap.get?_push_size _ rfl) rfl ?_ (Nat.zero_le _) grow)
  refine wpAny_pure ?_
  have got := get?_update_seq (Heap.get?_push_size (o := seqObj "list" #[] 0) s.heap rfl) (· ++ us.toArray)
  show wpAny (model prog w) A (do
      let ob ← load s.heap.objs.size
      match ob.data with
      | .seq zs _ => pure zs.toList
      | _ => unsupported "internal:collect") Q E { s with heap := (s.heap.push (seqObj "list" #[] 0)).update s.heap.objs.size (Obj.mapSeq (· ++ us.toArray)) }
  refine wpAny_bind (wpAny_load (get?_update_seq (Heap.get?_push_size _ rfl) _) ?_)
  show wpAny (model prog w) A (pure ((#[] : Array Value) ++ us.toArray).toList) Q E _
  rw [show ((#[] : Array Value) ++ us.toArray).toList = us by simp]
  exact wpAny_pure k
theorem sortT {tp : Addr} {us : List Value} {ns : List Int} {Q : Value → Shared → Prop} (it : IsTup s.heap tp us.toArray) (num : IntsAre us ns) (few : us.length < 64)
    (k : ∀ (out : Array Value) (ms : List Int), IntsAre out.toList ms → ms.Perm ns → ms.Pairwise (· ≤ ·) → Q (.ref (s.heap.objs.size + 1)) { s with heap := sortedAll s.heap us out }) :
    wpAny (model prog w) A (call (.builtin "sorted") [.ref tp]) Q E s := by
  refine call_function_entry kind_sorted plain_sorted entry_sorted (args_sorted1 _) ?_
  unfold Builtin.«sorted»
  refine wpAny_bind (m := checkCount "sorted" 1 1 _) (wpAny_pure (wpAny_bind (gatherT it (by omega) (wpAny_bind (wpAny_newList ?_)))))
  have size1 : ((s.heap.push (seqObj "list" #[] 0)).update s.heap.objs.size (Obj.mapSeq (· ++ us.toArray))).objs.size = s.heap.objs.size + 1 := by
    rw [Heap.size_update, size_push']
  have at1 := Heap.get?_push_size ((s.heap.push (seqObj "list" #[] 0)).update s.heap.objs.size (Obj.mapSeq (· ++ us.toArray))) (o := seqObj "list" us.toArray 0) rfl
  rw [size1] at at1
  show wpAny (model prog w) _ _ _ _ { s with heap := ((s.heap.push (seqObj "list" #[] 0)).update s.heap.objs.size (Obj.mapSeq (· ++ us.toArray))).push (seqObj "list" us.toArray 0) }
  rw [size1]
  refine wpAny_bind (wpAny_holding (wpAny_call_entry slot_list_sort ⟨_, at1, rfl⟩ entry_list_sort (list_sort_tree at1 num few fun out ms b1 b2 b3 => ⟨_, rfl, ?_⟩) (args_list_sort _)))
  exact wpAny_pure ⟨_, rfl, k out ms b1 b2 b3⟩
end
def rSortT : List V → Hp → VK → Prop := fun vs H Q => ∃ (a : Addr) (ns : List Int), vs = [V.ref a] ∧ H a = some (.tup (ns.map V.int)) ∧ ns.length < 64 ∧
  ∀ (ms : List Int) (p : Addr), ms.Perm ns → ms.Pairwise (· ≤ ·) → H p = none → Q (.ref p) (upd H p (.lst (ms.map V.int)))
theorem cr_sortT {X : Cx} : CallR X (.builtin "sorted") rSortT := by
  intro pins s σ H vs us Q I r h
  obtain ⟨a, ns, rfl, hs, few, q⟩ := h
  obtain ⟨its, rv, it, _⟩ := I.tuple (SqT.of hs)
  rw [Vals.ref1 r]
  have num := rv.ints
  refine sortT it num (by rw [num.length]; exact few) fun out ms b1 b2 b3 => ?_
  obtain ⟨ep, at2⟩ := sortedAll_at s.heap its out
  have ln : (ms.map V.int).length ≤ sizeLine := by
    rw [List.length_map, b2.length_eq]
    exact small64 few
  exact ⟨.ref _, upd H (s.heap.objs.size + 1) (.lst (ms.map V.int)), I.laid (t' := s.toks) (fun _ _ => sortedAll_old) (Nat.le_succ _) ⟨ln, out.toList, ep, vals_of_ints b1, at2⟩, rfl, q ms _ b2 b3 (I.hok.fresh (Nat.le_succ _))⟩
theorem rd_sortT {H : Hp} {Q : VK} {a : Addr} {ns : List Int} (h : H a = some (.tup (ns.map V.int))) (few : ns.length < 64) (q : ∀ (H2 : Hp) (p : Addr) (ms : List Int), Same H H2 → H p = none → H2 p = some (.lst (ms.map V.int)) → ms.Perm ns → ms.Pairwise (· ≤ ·) → Q (.ref p) H2) : rSortT [.ref a] H Q :=
  ⟨a, ns, rfl, h, few, fun ms p pm pw np => q _ p ms (same_new (Same.refl _) np) np upd_same pm pw⟩
end Rv
/-! the mathematics of k07: steps of Lagging, Workers, Machine -/
namespace RM
abbrev Stp := Int × List Nat
inductive Spc where
  | lag (age : Nat)
  | wrk (c : Nat)
  | mac (cnt : Nat) (es : List (Nat × Int × Nat)) (ends : List Nat)
/-- sorted -/
def ins (x : Nat) : List Nat → List Nat
  | [] => [x]
  | y :: r => if x ≤ y then x :: y :: r else y :: ins x r
def srt : List Nat → List Nat
  | [] => []
  | x :: r => ins x (srt r)
theorem ins_perm (x : Nat) : ∀ l : List Nat, (ins x l).Perm (x :: l)
  | [] => .refl _
  | y :: r => by
    unfold ins
    split
    · exact .refl _
    · exact ((ins_perm x r).cons y).trans (.swap x y r)
theorem srt_perm : ∀ l : List Nat, (srt l).Perm l
  | [] => .refl _
  | x :: r => (ins_perm x (srt r)).trans ((srt_perm r).cons x)
theorem ins_ord (x : Nat) : ∀ l : List Nat, l.Pairwise (· ≤ ·) → (ins x l).Pairwise (· ≤ ·)
  | [], _ => by simp [ins]
  | y :: r, h => by
    have h2 := List.pairwise_cons.mp h
    unfold ins
    split
    · rename_i z
      refine List.pairwise_cons.mpr ⟨fun a ha => ?_, h⟩
      rcases List.mem_cons.mp ha with e | e
      · omega
      · have := h2.1 a e
        omega
    · rename_i z
      refine List.pairwise_cons.mpr ⟨fun a ha => ?_, ins_ord x r h2.2⟩
      rcases List.mem_cons.mp ((ins_perm x r).mem_iff.mp ha) with e | e
      · omega
      · exact h2.1 a e
theorem srt_ord : ∀ l : List Nat, (srt l).Pairwise (· ≤ ·)
  | [] => List.Pairwise.nil
  | x :: r => ins_ord x _ (srt_ord r)
theorem ord_uniq : ∀ {a b : List Int}, a.Perm b → a.Pairwise (· ≤ ·) → b.Pairwise (· ≤ ·) → a = b
  | [], b, p, _, _ => (List.nil_perm.mp p).symm
  | x :: r, [], p, _, _ => by have := p.length_eq; cases this
  | x :: r, y :: t, p, ha, hb => by
    have ha2 := List.pairwise_cons.mp ha
    have hb2 := List.pairwise_cons.mp hb
    have e : x = y := by
      have h1 : x ∈ y :: t := p.mem_iff.mp (List.mem_cons_self ..)
      have h2 : y ∈ x :: r := p.mem_iff.mpr (List.mem_cons_self ..)
      rcases List.mem_cons.mp h1 with e | e
      · exact e
      · rcases List.mem_cons.mp h2 with e2 | e2
        · exact e2.symm
        · have := ha2.1 y e2
          have := hb2.1 x e
          omega
    subst e
    rw [ord_uniq p.cons_inv ha2.2 hb2.2]
theorem srt_is {l : List Nat} {ms : List Int} (p : ms.Perm (l.map fun x : Nat => (x : Int))) (o : ms.Pairwise (· ≤ ·)) : ms = (srt l).map fun x : Nat => (x : Int) := by
  refine ord_uniq (p.trans ((srt_perm l).symm.map _)) o ?_
  rw [List.pairwise_map]
  exact (srt_ord l).imp fun h => by omega
theorem srt_len (l : List Nat) : (srt l).length = l.length := (srt_perm l).length_eq
/-- ascending lists with the same members -/
theorem asc_eq : ∀ {a b : List Nat}, a.Pairwise (· < ·) → b.Pairwise (· < ·) → (∀ x, x ∈ a ↔ x ∈ b) → a = b
  | [], [], _, _, _ => rfl
  | [], y :: t, _, _, m => by have := (m y).mpr (List.mem_cons_self ..); cases this
  | x :: r, [], _, _, m => by have := (m x).mp (List.mem_cons_self ..); cases this
  | x :: r, y :: t, ha, hb, m => by
    have ha2 := List.pairwise_cons.mp ha
    have hb2 := List.pairwise_cons.mp hb
    have e : x = y := by
      rcases List.mem_cons.mp ((m x).mp (List.mem_cons_self ..)) with e | e
      · exact e
      · rcases List.mem_cons.mp ((m y).mpr (List.mem_cons_self ..)) with e2 | e2
        · exact e2.symm
        · have := ha2.1 y e2
          have := hb2.1 x e
          omega
    subst e
    rw [asc_eq ha2.2 hb2.2 fun z => ?_]
    constructor
    · intro hz
      rcases List.mem_cons.mp ((m z).mp (List.mem_cons_of_mem _ hz)) with e | e
      · have := ha2.1 z hz; omega
      · exact e
    · intro hz
      rcases List.mem_cons.mp ((m z).mpr (List.mem_cons_of_mem _ hz)) with e | e
      · have := hb2.1 z hz; omega
      · exact e
/-- one p of a state is replaced -/
def mvd (st : List Nat) (p g : Nat) : List Nat := srt (st.set (st.idxOf p) g)
def lsteps (age p h len : Nat) : List Stp := (if p < len then [((p : Int), [p + 1, max h (p + 1)])] else []) ++ (List.range (p - (h - age))).map fun i => (-1, [h - age + i, h])
def wfw (st : List Nat) (n : Nat) : List Stp := ((List.range n).filter fun p => decide (p ∈ st)).map fun p : Nat => ((p : Int), mvd st p (p + 1))
def wbk (st : List Nat) (n : Nat) : List Stp := (((List.range n).map (· + 1)).filter fun p => decide (p ∈ st)).map fun p : Nat => (-1, mvd st p 0)
def wsteps (st : List Nat) (len : Nat) : List Stp := wfw st len ++ wbk st len
def mok (s : Nat) (len : Nat) (e : Nat × Int × Nat) : Bool := decide (e.1 = s ∧ e.2.1 < (len : Int))
def msteps (es : List (Nat × Int × Nat)) (s len : Nat) : List Stp := (es.filter (mok s len)).map fun e => (e.2.1, [e.2.2])
def stepsOf : Spc → List Nat → Nat → List Stp
  | .lag age, st, len => lsteps age (st.getD 0 0) (st.getD 1 0) len
  | .wrk _, st, len => wsteps st len
  | .mac _ es _, st, len => msteps es (st.getD 0 0) len
/-- a rule that may be asked -/
def SOk : Spc → Prop
  | .lag age => age ≤ 99
  | .wrk c => 1 ≤ c ∧ c ≤ 3
  | .mac cnt es ends => 1 ≤ cnt ∧ cnt ≤ 50 ∧ es.length ≤ 40 ∧ ends.length ≤ 3 ∧ (∀ e ∈ es, e.1 < cnt ∧ -1 ≤ e.2.1 ∧ e.2.1 ≤ 99 ∧ e.2.2 < cnt) ∧ ∀ e ∈ ends, e < cnt
/-- a state that may be asked -/
def VSt : Spc → Nat → List Nat → Prop
  | .lag _, len, st => ∃ p h, st = [p, h] ∧ p ≤ len ∧ h ≤ 60
  | .wrk c, len, st => st.length = c ∧ ∀ x ∈ st, x ≤ len
  | .mac cnt _ _, _, st => ∃ s, st = [s] ∧ s < cnt
theorem mvd_len (st : List Nat) (p g : Nat) : (mvd st p g).length = st.length := by unfold mvd; rw [srt_len, List.length_set]
theorem mvd_le {st : List Nat} {p g len : Nat} (h : ∀ x ∈ st, x ≤ len) (hg : g ≤ len) : ∀ x ∈ mvd st p g, x ≤ len := fun x hx => by
  have := (srt_perm _).mem_iff.mp hx
  rcases List.mem_or_eq_of_mem_set this with y | y
  · exact h x y
  · rw [y]; exact hg
theorem step_ok {sp : Spc} (s : SOk sp) {len : Nat} (l60 : len ≤ 60) {st : List Nat} (v : VSt sp len st) {x : Stp} (hx : x ∈ stepsOf sp st len) : VSt sp len x.2 := by
  cases sp with
  | lag a =>
    obtain ⟨p, h, rfl, hp, hh⟩ := v
    rcases List.mem_append.mp hx with y | y
    · have : p < len ∧ x = ((p : Int), [p + 1, max h (p + 1)]) := by
        by_cases z : p < len
        · have y2 : x ∈ (if p < len then [((p : Int), [p + 1, max h (p + 1)])] else []) := y
          rw [if_pos z] at y2
          exact ⟨z, List.mem_singleton.mp y2⟩
        · have y2 : x ∈ (if p < len then [((p : Int), [p + 1, max h (p + 1)])] else []) := y
          rw [if_neg z] at y2
          cases y2
      rw [this.2]
      exact ⟨_, _, rfl, this.1, by have := this.1; omega⟩
    · obtain ⟨i, hi, e⟩ := List.mem_map.mp y
      have hi2 : i < p - (h - a) := List.mem_range.mp hi
      rw [← e]
      exact ⟨h - a + i, h, rfl, by omega, hh⟩
  | wrk c =>
    rcases List.mem_append.mp hx with y | y
    · obtain ⟨p, hp, e⟩ := List.mem_map.mp y
      have := List.mem_range.mp (List.mem_filter.mp hp).1
      rw [← e]
      exact ⟨(mvd_len _ _ _).trans v.1, mvd_le v.2 this⟩
    · obtain ⟨p, hp, e⟩ := List.mem_map.mp y
      rw [← e]
      exact ⟨(mvd_len _ _ _).trans v.1, mvd_le v.2 (Nat.zero_le _)⟩
  | mac cnt es ends =>
    obtain ⟨e, he, rfl⟩ := List.mem_map.mp hx
    exact ⟨_, rfl, (s.2.2.2.2.1 e (List.mem_filter.mp he).1).2.2.2⟩
theorem steps_len {sp : Spc} (s : SOk sp) {len : Nat} (l60 : len ≤ 60) {st : List Nat} (v : VSt sp len st) : (stepsOf sp st len).length ≤ 130 := by
  cases sp with
  | lag a =>
    obtain ⟨p, h, rfl, hp, hh⟩ := v
    show (lsteps a p h len).length ≤ 130
    unfold lsteps
    rw [List.length_append, List.length_map, List.length_range]
    have : (if p < len then [((p : Int), [p + 1, max h (p + 1)])] else ([] : List Stp)).length ≤ 1 := by split <;> simp
    omega
  | wrk c =>
    show (wfw st len ++ wbk st len).length ≤ 130
    unfold wfw wbk
    rw [List.length_append, List.length_map, List.length_map]
    have h1 := List.length_filter_le (fun p => decide (p ∈ st)) (List.range len)
    have h2 := List.length_filter_le (fun p => decide (p ∈ st)) ((List.range len).map (· + 1))
    rw [List.length_range] at h1
    rw [List.length_map, List.length_range] at h2
    omega
  | mac cnt es ends =>
    show ((es.filter (mok (st.getD 0 0) len)).map _).length ≤ 130
    rw [List.length_map]
    have := List.length_filter_le (mok (st.getD 0 0) len) es
    have := s.2.2.1
    omega
/-- the program's way to the steps of Workers: the positions once, ascending -/
theorem work_fw {st hs : List Nat} (o : hs.Pairwise (· < ·)) (m : ∀ x, x ∈ hs ↔ x ∈ st) (len : Nat) : (hs.filter fun p => decide (p < len)) = (List.range len).filter fun p => decide (p ∈ st) := by
  refine asc_eq (o.filter _) (List.pairwise_lt_range.filter _) fun x => ?_
  rw [List.mem_filter, List.mem_filter, List.mem_range, decide_eq_true_eq, decide_eq_true_eq, m]
  exact And.comm
theorem work_bk {st hs : List Nat} (o : hs.Pairwise (· < ·)) (m : ∀ x, x ∈ hs ↔ x ∈ st) {len : Nat} (le : ∀ x ∈ st, x ≤ len) : (hs.filter fun p => decide (0 < p)) = ((List.range len).map (· + 1)).filter fun p => decide (p ∈ st) := by
  refine asc_eq (o.filter _) (List.Pairwise.filter _ (List.pairwise_map.mpr (List.pairwise_lt_range.imp fun h => by omega))) fun x => ?_
  rw [List.mem_filter, List.mem_filter, List.mem_map, decide_eq_true_eq, decide_eq_true_eq, m]
  constructor
  · rintro ⟨h1, h2⟩
    exact ⟨⟨x - 1, List.mem_range.mpr (by have := le x h1; omega), by omega⟩, h1⟩
  · rintro ⟨⟨y, _, e⟩, h⟩
    exact ⟨h, by omega⟩
def leadsOf (es : List (Nat × Int × Nat)) (s : Nat) : List Stp := (es.filter fun e => decide (e.1 = s)).map fun e => (e.2.1, [e.2.2])
end RM
/-! for k07: how steps, specs and rules lie in the heap; a box of draws with two lists -/
namespace Rv
open PySem PySem.Spec PyProof.Rows L2 RM
/-! what never changes stays -/
def Tf : HO → Prop
  | .tup _ => True
  | .frz _ _ => True
  | _ => False
def Ko (H H' : Hp) : Prop := ∀ a o, Tf o → H a = some o → H' a = some o
section
variable {H H' H1 H2 : Hp} {p a : Addr} {o x : HO} {xs : List V} {gs : List Int} {B : Box}
theorem Ko.kt (k : Ko H H') : Kt H H' := fun a xs h => k a _ trivial h
theorem Ko.same (S : Same H H1) : Ko H H1 := fun a o _ h => S _ _ h
theorem Ko.obj (h : H p = some x) (n : ¬ Tf x) : Ko H (upd H p o) := fun a u t e => by
  rw [upd_ne fun z => by rw [z, h] at e; exact n (Option.some.inj e ▸ t)]
  exact e
theorem Ko.mut (h : H p = some (.lst xs)) : Ko H (upd H p o) := Ko.obj h fun t => t
theorem Ko.new (h : H p = none) : Ko H (upd H p o) := fun a u t e => by
  rw [upd_ne fun z => by rw [z, h] at e; cases e]
  exact e
theorem Ko.wg (w : Wg B H H1) : Ko H H1 := fun a o t h => w.obj h fun xs e => by subst e; exact t
theorem GT.ko (g : GT H a gs) (k : Ko H H') : GT H' a gs := by
  obtain ⟨o, h, d⟩ := g
  exact ⟨o, k _ _ trivial h, d⟩
end
/-- as lc_acc2: frozen tuples stay too -/
theorem lc_accK {J : It} {n : Nat} {G : Hp → Prop} {Y : Nat → Hp → V → Hp → Prop} (w : Walk J n G Y) {g : TG} {tt : TT} {te : TE} {vs : List Nat} {σ : L2.St} {H0 : Hp} {Q : VK} (Pv : Nat → List V → Hp → Prop) (p0 : Pv 0 [] H0)
    (st : ∀ i acc H H', Ko H H' → Pv i acc H → Pv i acc H') (sm : ∀ i acc H, i ≤ n → Pv i acc H → acc.length < 1000) (hG : ∀ H, Same H0 H → G H)
    (hs : ∀ i x H H' acc (Qc : VK) (R : Hp → Prop), i < n → Same H0 H → Pv i acc H → Y i H x H' → (∀ y H4, Same H H4 → Pv (i + 1) (acc ++ [y]) H4 → Qc y H4) → (∀ H4, Same H H4 → Pv (i + 1) acc H4 → R H4) →
      g x (wipe σ vs) H' fun σ2 H2 => wipe σ2 vs = wipe σ vs ∧ tt σ2 H2 fun b H3 => if b = true then te σ2 H3 Qc else R H3)
    (hd : ∀ H D acc, Same H0 H → H0 D = none → H D = some (.lst acc) → Pv n acc H → Q (.ref D) H) : Lc J g tt te vs σ H0 Q := fun D nD =>
  lc_it w (Qd := fun H => Q (.ref D) H) (fun i H => Same H0 H ∧ i ≤ n ∧ ∃ acc, H D = some (.lst acc) ∧ Pv i acc H) ⟨same_new (Same.refl _) nD, Nat.zero_le _, [], upd_same, st _ _ _ _ (Ko.new nD) p0⟩ (fun i H _ p => hG H p.1)
    (fun i x H H' hi p y => by
      obtain ⟨w0, hin, acc, hD, pa⟩ := p
      refine hs i x H H' acc _ _ hi w0 pa y (fun z H4 S4 pz => ?_) (fun H4 S4 pz => ⟨w0.trans S4, hi, acc, S4 _ _ hD, pz⟩)
      have hD4 := S4 _ _ hD
      exact ⟨acc, hD4, small1000 (by have := sm i acc H (by omega) pa; omega), same_mut (w0.trans S4) nD, hi, _, upd_same, st _ _ _ _ (Ko.mut hD4) pz⟩)
    (fun H p => by
      obtain ⟨w0, _, acc, hD, pa⟩ := p
      exact hd H D acc w0 nD hD pa)
/-! steps; a state is a tuple whose object is known -/
def StpAt (H : Hp) (p : Addr) (s : Stp) : Prop := ∃ q, H p = some (.tup [.int s.1, .ref q]) ∧ GT H q (niz s.2)
def StpsAt (H : Hp) (ps : List Addr) (ss : List Stp) : Prop := ps.length = ss.length ∧ ∀ (i : Nat) (s : Stp), ss[i]? = some s → ∃ p, ps[i]? = some p ∧ StpAt H p s
section
variable {K : PySem.W.Frag} {H H' : Hp} {p : Addr} {s : Stp} {ps qs : List Addr} {ss ts : List Stp}
theorem StpAt.kt (h : StpAt H p s) (k : Ko H H') : StpAt H' p s := by obtain ⟨q, a, b⟩ := h; exact ⟨q, k _ _ trivial a, b.ko k⟩
theorem StpsAt.kt (h : StpsAt H ps ss) (k : Ko H H') : StpsAt H' ps ss := ⟨h.1, fun i s e => by obtain ⟨p, a, b⟩ := h.2 i s e; exact ⟨p, a, b.kt k⟩⟩
theorem StpsAt.same (h : StpsAt H ps ss) (S : Same H H') : StpsAt H' ps ss := h.kt (Ko.same S)
theorem StpsAt.nil : StpsAt H [] [] := ⟨rfl, fun i s e => by simp at e⟩
theorem StpsAt.app (h : StpsAt H ps ss) (k : StpsAt H qs ts) : StpsAt H (ps ++ qs) (ss ++ ts) := ⟨by rw [List.length_append, List.length_append, h.1, k.1], fun i s e => by
  by_cases z : i < ss.length
  · rw [List.getElem?_append_left z] at e
    obtain ⟨p, e1, e2⟩ := h.2 i s e
    exact ⟨p, by rw [List.getElem?_append_left (by rw [h.1]; exact z)]; exact e1, e2⟩
  · rw [List.getElem?_append_right (by omega)] at e
    obtain ⟨p, e1, e2⟩ := k.2 _ s e
    exact ⟨p, by rw [List.getElem?_append_right (by rw [h.1]; omega), h.1]; exact e1, e2⟩⟩
theorem StpsAt.one (h : StpAt H p s) : StpsAt H [p] [s] := ⟨rfl, fun i t e => by
  cases i with
  | zero => cases e; exact ⟨p, rfl, h⟩
  | succ i => simp at e⟩
theorem StpsAt.snoc (h : StpsAt H ps ss) (k : StpAt H p s) : StpsAt H (ps ++ [p]) (ss ++ [s]) := h.app (.one k)
/-- as data -/
def dStp (s : Stp) : PyData := .tuple [.int s.1, .tuple ((niz s.2).map PyData.int)]
theorem sh_dStp (s : Stp) : Sh 2 (dStp s) := Sh.tuple fun d hd => by
  rcases List.mem_cons.mp hd with e | e
  · rw [e]; exact Sh.int _
  · rw [List.mem_singleton.mp e]
    exact Sh.tuple fun d hd => by
      obtain ⟨i, _, rfl⟩ := List.mem_map.mp hd
      exact Sh.int i
end
/-! specs -/
/-! rules; M: what may change elsewhere -/
/-- all objects but those of M, lists, stay -/
def KpM (M : List Addr) (H H' : Hp) : Prop := ∀ a o, (a ∉ M ∨ ∀ xs, o ≠ .lst xs) → H a = some o → H' a = some o
theorem KpM.ko {M : List Addr} {H H' : Hp} (k : KpM M H H') : Ko H H' := fun a o t h => k a o (.inr fun ys e => by subst e; exact t) h
theorem KpM.kt {M : List Addr} {H H' : Hp} (k : KpM M H H') : Kt H H' := k.ko.kt
theorem KpM.wg {B : Box} {H H' : Hp} (w : Wg B H H') : KpM B.m H H' := fun a o n h => n.elim (fun z => w.keep a o z h) fun z => w.obj h z
theorem KpM.same {M : List Addr} {H H' : Hp} (S : Same H H') : KpM M H H' := fun a o _ h => S _ _ h
/-! the box: numbers, great ones, a great one that is used up, a count -/
def gbL (b c g : Addr) (ns : List Int) (n1 : b ≠ c) (n2 : g ≠ c) (n3 : b ≠ g) : Box where
  b := b
  m := [b, g]
  fp := [b, g, c]
  I := fun H => H c = some (.lst (ns.map V.int)) ∧ ∃ (gs : List Int) (bu ct : Int), H g = some (.lst (gs.map V.int)) ∧ H b = some (.lst [.ref c, .ref g, .int bu, .int ct])
  sub := fun a ha => by
    rcases List.mem_cons.mp ha with e | e
    · rw [e]; exact List.mem_cons_self ..
    · rw [List.mem_singleton.mp e]; simp
  live := fun H i a ha => by
    obtain ⟨hc, gs, bu, ct, hg, hb⟩ := i
    rcases List.mem_cons.mp ha with e | e
    · rw [e]; exact ⟨_, hb⟩
    · rcases List.mem_cons.mp e with e | e
      · rw [e]; exact ⟨_, hg⟩
      · rw [List.mem_singleton.mp e]; exact ⟨_, hc⟩
  frame := fun H H' i k => by
    obtain ⟨hc, gs, bu, ct, hg, hb⟩ := i
    exact ⟨by rw [k c (by simp)]; exact hc, gs, bu, ct, by rw [k g (by simp)]; exact hg, by rw [k b (by simp)]; exact hb⟩
def IsGb (B : Box) : Prop := ∃ b c g ns n1 n2 n3, B = gbL b c g ns n1 n2 n3
section
variable {b c g : Addr} {ns gs : List Int} {n1 : b ≠ c} {n2 : g ≠ c} {n3 : b ≠ g} {H H' : Hp} {bu ct : Int}
/-- the box is written -/
theorem gb_put {H0 : Hp} (w : Wg (gbL b c g ns n1 n2 n3) H0 H) {bu2 ct2 : Int} {xs : List V} (e : xs = [.ref c, .ref g, .int bu2, .int ct2]) : Wg (gbL b c g ns n1 n2 n3) H0 (upd H b (.lst xs)) := by
  subst e
  obtain ⟨hc, gs, bu, ct, hg, hb⟩ := w.i1
  exact ⟨fun a o n h => by
    have na : a ≠ b := fun e => n (e ▸ List.mem_cons_self ..)
    rw [upd_ne na]
    exact w.keep a o n h, w.i0, by rw [upd_ne n1.symm]; exact hc, gs, bu2, ct2, by rw [upd_ne n3.symm]; exact hg, upd_same⟩
/-- a great one is taken out -/
theorem gb_pop {H0 : Hp} (w : Wg (gbL b c g ns n1 n2 n3) H0 H) {gs2 : List Int} {xs : List V} (e : xs = gs2.map V.int) : Wg (gbL b c g ns n1 n2 n3) H0 (upd H g (.lst xs)) := by
  subst e
  obtain ⟨hc, gs, bu, ct, hg, hb⟩ := w.i1
  exact ⟨fun a o n h => by
    have na : a ≠ g := fun e => n (by rw [e]; show g ∈ [b, g]; simp)
    rw [upd_ne na]
    exact w.keep a o n h, w.i0, by rw [upd_ne n2.symm]; exact hc, gs2, bu, ct, upd_same, by rw [upd_ne n3]; exact hb⟩
end
end Rv
/-! t * 1 -/
namespace Rv
open PySem PySem.Spec PyProof.Rows L2
theorem tmul_one (l : Addr) (items : Array Value) (n : Nat) (dd : Option Addr) (sl : Array (Option Value)) (u : Tok) :
    Meets (Builtin.«tuple.__mul__» ⟨[.ref l, .int 1 u], []⟩) (fun _ R s => s.heap.get? l = some { cls := .type "tuple", dict := dd, data := .seq items n, slots := sl } ∧ R (.ok (.ret (Value.ref l))) s) :=
  .of_wp fun prog w A R s h => by
    obtain ⟨hp, g, d, tk, os⟩ := s
    obtain ⟨hl, h⟩ := h
    have f1 := AutoSeq1.idx_int
    have c0 : (decide ((1 : Int) < -(2 ^ 63)) || decide ((1 : Int) ≥ 2 ^ 63)) = false := by decide
    have c1 : (items.isEmpty || (1 : Int) == 1) = true := by
      rw [show ((1 : Int) == 1) = true from rfl, Bool.or_true]
    wp_walk using wpAny_loadPart' hl
    repeat (first
      | (refine wpAny_ite_false (decide_eq_false (by rw [c0]; exact Bool.false_ne_true)) ?_; wp_walk using wpAny_loadPart' hl)
      | (refine wpAny_ite_true (decide_eq_true c1) ?_; wp_walk using wpAny_loadPart' hl))
    exact ⟨_, rfl, h⟩
/-! tuples whose object is known -/
theorem laidG {X : Cx} {pins : List (Addr × Obj)} {σ : L2.St} {H : Hp} {s : Shared} {xs : List V} {its : List Value} (I : Inv X pins σ H s) (r : Vals xs its) (hz : xs.length ≤ sizeLine) (t : Nat) :
    Inv X pins σ (upd H s.heap.objs.size (.frz { cls := .type "tuple", data := .seq its.toArray } (.tup xs))) { s with heap := s.heap.push { cls := .type "tuple", data := .seq its.toArray }, toks := t } :=
  I.laid (t' := t) (o := .frz { cls := .type "tuple", data := .seq its.toArray } (.tup xs)) (fun b o e => Heap.get?_push_of_some _ e) (Nat.le_refl _)
    (show ObjOk X.prog X.w _ _ _ (.frz { cls := .type "tuple", data := .seq its.toArray } (.tup xs)) from ⟨Heap.get?_push_size _ rfl, hz, its, r, IsTup.new _ _⟩)
def NewG (xs : List V) (Q : VK) (H : Hp) : Prop := xs.length ≤ sizeLine ∧ ∀ (p : Addr) (o : Obj), H p = none → o.dict = none → Q (.ref p) (upd H p (.frz o (.tup xs)))
def tTupG (t : TA) : TE := fun σ H Q => t σ H fun xs H1 => NewG xs Q H1
theorem pe_tupG {X : Cx} {es : List Expr} {x1} {pos : Pos} {t : TA} (h : PA X es t) : PE X (.Tuple es x1 pos) (tTupG t) := by
  refine ⟨fun pins s σ H Q I hq => ?_⟩
  refine wpAny_Tuple_spliced (thn (h.run pos pins s σ H _ I hq) fun us s1 ⟨xs, H1, I1, r, z, q⟩ => ⟨by rw [← r.length]; exact z, ?_⟩)
  exact ⟨.ref s1.heap.objs.size, _, laidG I1 r z s1.toks, rfl, q _ _ (I1.hok.fresh (Nat.le_refl _)) rfl⟩
theorem rd_tupG {t : TA} {σ : L2.St} {H : Hp} {Q : VK} (q : t σ H fun xs H1 => NewG xs Q H1) : tTupG t σ H Q := q
theorem rd_newG {xs : List V} {H : Hp} {Q : VK} (ns : List Int) (e : xs = ns.map V.int) (l : ns.length ≤ 1000) (q : ∀ H2 p, Same H H2 → H p = none → GT H2 p ns → Q (.ref p) H2) : NewG xs Q H := by
  subst e
  exact ⟨by rw [List.length_map]; exact Nat.le_of_lt (small1000 l), fun p o np d => q _ p (same_new (Same.refl _) np) np ⟨o, upd_same, d⟩⟩
/-- (0,) * c -/
def rRepO (K : PySem.W.Frag) : R2 := fun x y H Q => ∃ l c, x = .ref l ∧ y = .int c ∧ GT H l [0] ∧ 1 ≤ c ∧ c ≤ 1000 ∧ (c = 1 → Q (.ref l) H) ∧ (2 ≤ c → ∀ (p : Addr) (o : Obj), H p = none → o.dict = none → Q (.ref p) (upd H p (.frz o (.tup (List.replicate c.toNat (V.int 0))))))
theorem op_repO {X : Cx} : OpR X (binaryOp .Mult) (rRepO X.K) := by
  intro pins s σ H x y v u Q I rx ry h
  obtain ⟨l, k, rfl, rfl, g, c1, c2, q1, q2⟩ := h
  cases rx
  obtain ⟨t, rfl⟩ := ry
  obtain ⟨its, r, ⟨⟨cls, dd, data, sl⟩, ho, hc, n, hd⟩, hs⟩ := I.tuple (show SqT X.K H l ([0].map V.int) from g.sq)
  simp only at hc hd
  subst hc hd
  by_cases z : k = 1
  · subst z
    refine wpAny_binaryOp_repeat_ref (T := "tuple") (U := "int") (by decide) ⟨_, ho, rfl⟩ (fun s' => typeIs_int s' 1 t) noFill_tuple_mul PySem.F.fills_int_mul PySem.F.slot_int_rmul repeat_tuple PySem.F.slot_int_index.lookup
      (call_meets PySem.F.slot_int_rmul (typeIs_int s 1 t) PySem.F.entry_int_rmul (PySem.F.args_int_rmul_2 _ _) (int_rmul_tuple 1 t l its.toArray n dd sl)
        ⟨ho, rfl, ⟨_, ho, rfl⟩, call_meets PySem.F.slot_tuple_mul ⟨_, ho, rfl⟩ PySem.F.entry_tuple_mul (PySem.F.args_tuple_mul_2 _ _) (tmul_one l its.toArray n dd sl t) ⟨ho, ?_⟩⟩)
    exact ⟨.ref l, H, I, rfl, q1 rfl⟩
  · have h1 : 2 ≤ k := by omega
    have hle : its.length = 1 := r.length.symm
    have hi : its.toArray.isEmpty = false := by
      cases its with
      | nil => cases hle
      | cons a b => rfl
    have hsz0 : its.toArray.size = 1 := by rw [List.size_toArray, hle]
    have flen : (List.replicate k.toNat its).flatten.length ≤ sizeLine := by
      rw [PyProof.Rows.lm_len_rep_flat, hle, sizeLine_eq]
      omega
    have c0 : (decide (k < -(2 ^ 63)) || decide (k ≥ 2 ^ 63)) = false := by
      rw [decide_eq_false (by omega), decide_eq_false (by omega)] <;> rfl
    have c1 : (its.toArray.isEmpty || k == 1) = false := by
      rw [hi, Bool.false_or]
      exact beq_eq_false_iff_ne.mpr (by omega)
    have c2 : (decide (k ≤ 0) || its.toArray.isEmpty) = false := by
      rw [hi, Bool.or_false]
      exact decide_eq_false (by omega)
    have c4 : Builtin.Tuple.tupleTooMany (((its.toArray.size : Nat) : Int) * k) = false := by
      unfold Builtin.Tuple.tupleTooMany
      rw [sizeLine_eq, hsz0]
      exact decide_eq_false (by omega)
    refine wpAny_binaryOp_repeat_ref (T := "tuple") (U := "int") (by decide) ⟨_, ho, rfl⟩ (fun s' => typeIs_int s' k t) noFill_tuple_mul PySem.F.fills_int_mul PySem.F.slot_int_rmul repeat_tuple PySem.F.slot_int_index.lookup
      (call_meets PySem.F.slot_int_rmul (typeIs_int s k t) PySem.F.entry_int_rmul (PySem.F.args_int_rmul_2 _ _) (int_rmul_tuple k t l its.toArray n dd sl)
        ⟨ho, rfl, ⟨_, ho, rfl⟩, call_meets PySem.F.slot_tuple_mul ⟨_, ho, rfl⟩ PySem.F.entry_tuple_mul (PySem.F.args_tuple_mul_2 _ _) (tuple_mulW l its.toArray n dd sl k t c0 c1 c2 (by rw [hsz0]; omega) c4 (by rw [size_rep, List.size_toArray]; exact flen)) ⟨ho, ?_⟩⟩)
    rw [size_rep]
    have er : (List.replicate k.toNat ([0].map V.int)).flatten = List.replicate k.toNat (V.int 0) := by
      have : ∀ m : Nat, (List.replicate m [V.int 0]).flatten = List.replicate m (V.int 0) := fun m => by
        induction m with
        | zero => rfl
        | succ m ih => rw [List.replicate_succ, List.flatten_cons, ih, List.replicate_succ]; rfl
      exact this _
    have rr := r.rep k.toNat
    rw [er] at rr
    exact ⟨.ref s.heap.objs.size, _, laidG I rr (by rw [List.length_replicate, sizeLine_eq]; omega) s.toks, rfl, q2 h1 _ _ (I.hok.fresh (Nat.le_refl _)) rfl⟩
theorem rd_rep0 {K : PySem.W.Frag} {H : Hp} {Q : VK} {p : Addr} {c : Nat} (h : GT H p [0]) (c1 : 1 ≤ c) (c2 : c ≤ 1000) (q : ∀ H2 l, Same H H2 → GT H2 l (niz (List.replicate c 0)) → Q (.ref l) H2) : rRepO K (.ref p) (.int (c : Int)) H Q := by
  have e : (niz (List.replicate c 0)).map V.int = List.replicate c (V.int 0) := by unfold niz; simp
  refine ⟨p, c, rfl, rfl, h, by omega, by omega, fun z => ?_, fun _ l o nl d => ?_⟩
  · have z2 : c = 1 := by omega
    subst z2
    exact q H p (Same.refl _) h
  · refine q _ l (same_new (Same.refl _) nl) ⟨o, ?_, d⟩
    rw [upd_same, Int.toNat_natCast, e]
/-- t.index(k) -/
def tTix (to te : TE) : TE := fun σ H Q => to σ H fun x H1 => ∃ p ns, x = .ref p ∧ GT H1 p ns ∧ te σ H1 fun y H2 => ∃ k, [y] = [V.int k] ∧ GT H2 p ns ∧ k ∈ ns ∧ Q (.int (ns.idxOf k : Nat)) H2
def rTIxQ (K : PySem.W.Frag) : V → List V → Hp → VK → Prop := fun x xs H Q => ∃ (p : Addr) (ns : List Int) (k : Int), x = .ref p ∧ xs = [.int k] ∧ SqT K H p (ns.map V.int) ∧ k ∈ ns ∧ Q (.int (ns.idxOf k : Nat)) H
theorem mt_tIxQ {X : Cx} : MtR X "tuple.index" (rTIxQ X.K) := by
  intro pins s σ H x xs v us Q I rx rs h
  obtain ⟨p, ns, k, rfl, rfl, hs, hk, q⟩ := h
  cases rx
  obtain ⟨u, rfl, ru⟩ := rs.one
  obtain ⟨t, rfl⟩ := ru
  obtain ⟨its, rv, tp, _⟩ := I.tuple hs
  exact PySem.SeqAt.tuple_index_ints (show s.heap.IsTuple p its.toArray from tp) (ints_of_vals rv) hk ⟨.int (ns.idxOf k : Nat), H, I.tok _, ⟨_, rfl⟩, q⟩
theorem pe_tix {X : Cx} {o e : Expr} {to te : TE} {apos cpos : Pos} (ho : PE X o to) (he : PE X e te)
    (h1 : attributeBase o "index" X.env (eval o X.env) = eval o X.env := by rfl)
    (h2 : ((backTo cpos (starEach [e] X.env)).all (fun x => !x.1) && (backToKw cpos (keywordEach [] X.env)).all (fun x => x.1.isSome)
      && decide ([e].length + ([] : List Keyword).length + (if ([] : List Keyword).isEmpty then 0 else 1) < 30)) = true := by rfl)
    (h3 : (apos.endLine == cpos.line) = true := by rfl) (h4 : starEach [e] X.env = (false, eval e X.env) :: starEach [] X.env := by rfl) (h5 : (backTo cpos (starEach [] X.env)).any (·.1) = false := by rfl) :
    PE X (.Call (.Attribute o "index" apos) [e] [] cpos) (tTix to te) := by
  refine ⟨fun pins s σ H Q I h => ?_⟩
  refine wpAny_Call_method_late h1 h2 h3 rfl (thn (ho.run pins s σ H _ I h) fun v s1 ⟨x, H1, I1, r1, p, ns, ex, gp, q1⟩ => ?_)
  subst ex
  cases r1
  obtain ⟨ob, hb, hd⟩ := id gp
  obtain ⟨ho1, _, its, rv, o2, ho2, hc2, n2, hd2⟩ := (show ObjOk X.prog X.w H1 s1.heap p (.frz ob (.tup (ns.map V.int))) from I1.hok p _ hb)
  rw [ho1] at ho2
  cases ho2
  refine ⟨"tuple", _, PySem.F.plainAttrs_tuple, PySem.F.slot_tuple_index, PySem.F.type_tuple_index, ⟨_, ho1, hc2⟩, fun a ea => by cases ea; exact ⟨_, ho1, hd⟩, ?_⟩
  have ha : PA X [e] (tCons te tNil) := pa_cons he pa_nil (hs := h4)
  have hA := ha.run cpos pins s1 σ H1 (fun vs H2 => ∃ k, vs = [.int k] ∧ GT H2 p ns ∧ k ∈ ns ∧ Q (.int (ns.idxOf k : Nat)) H2) I1 q1
  rw [h4] at hA ⊢
  refine Calls.callWith_builtin (by show (false || (backTo cpos (starEach [] X.env)).any (·.1)) = false; rw [h5] <;> rfl) (Calls.evalArgs_plain ?_)
  exact thn hA fun us s2 ⟨vs, H2, I2, r2, k, ev, g2, hk, q2⟩ => mt_tIxQ pins s2 σ H2 (.ref p) vs (.ref p) us Q I2 rfl r2 ⟨p, ns, k, rfl, ev, g2.sq, hk, q2⟩
theorem rd_tidx {i j : Nat} {σ : L2.St} {H : Hp} {Q : VK} {p : Addr} {st : List Nat} {k : Nat} (hv : σ[i]? = some (some (.ref p))) (hw : σ[j]? = some (some (.int (k : Int)))) (g : GT H p (niz st)) (m : k ∈ st) (q : Q (.int (st.idxOf k : Nat)) H) : tTix (tVar i) (tVar j) σ H Q := by
  have e : (niz st).idxOf (k : Int) = st.idxOf k := by
    unfold niz
    rw [List.idxOf, List.idxOf, List.findIdx_map]
    congr 1
    funext a
    show ((a : Int) == (k : Int)) = (a == k)
    rw [Bool.eq_iff_iff, beq_iff_eq, beq_iff_eq]
    omega
  refine ⟨_, hv, p, niz st, rfl, g, _, hw, k, rfl, g, (mem_niz ..).mpr m, ?_⟩
  rw [e]
  exact q
theorem rd_newS {xs : List V} {H : Hp} {Q : VK} (st : List Nat) (e : xs = nvs st) (q : ∀ H2 p, Same H H2 → H p = none → GT H2 p (niz st) → Q (.ref p) H2) (l : st.length ≤ 1000 := by simp) : NewG xs Q H := rd_newG (niz st) e (by rw [niz_len]; exact l) q
section
variable {K : PySem.W.Frag} {w : World} {H : Hp} {Q : VK} {p : Addr} {gs ns : List Int} {σ : L2.St}
theorem rd_setG (h : GT H p ns) (l : ns.length < 64) (q : ∀ H2 a c, Same H H2 → H a = none → c ≤ ns.length → H2 a = some (SetO w a (fun j => decide (j ∈ ns)) c) → Q (.ref a) H2) : rSetI K w [.ref p] H Q :=
  ⟨p, ns, rfl, .inr h.sq, l, fun a c na hc => q _ a c (fun b u e => by rw [upd_ne (ne_of_none e na)]; exact e) na hc upd_same⟩
theorem rd_slG {lo hi : Option Int} (h : GT H p ns) (no : ¬ (HT.sIx ns.length 0 lo = 0 ∧ HT.sIx ns.length ns.length hi = ns.length)) (q : NewL (.tup (cutV (ns.map V.int) lo hi)) Q H) : rSlT K (.ref p) lo hi H Q := ⟨p, _, rfl, h.sq, by rw [List.length_map]; exact no, q⟩
theorem rd_inG {x : V} (h : GT H p ns) (fx : flatV x = true) (fs : (ns.map V.int).all flatV = true) (q : Q (.bl (inV x (ns.map V.int))) H) : rIn K false x (.ref p) H Q := ⟨p, _, rfl, .inr h.sq, fx, fs, q⟩
theorem rd_ItG {R : It → Hp → Prop} (h : GT H p ns) (q : R (Itt K p) H) : ItT K R (.ref p) H := ⟨p, rfl, ⟨_, h.sq⟩, q⟩
end
def rMaxQ : List V → Hp → VK → Prop := fun xs H Q => ∃ i j, xs = [.int i, .int j] ∧ Q (.int (if j > i then j else i)) H
theorem call_maxQ {X : Cx} (hc : X.calm = true) : CallR X (.builtin "max") rMaxQ := call_max2 hc
theorem rd_maxQ {H : Hp} {Q : VK} {i j : Int} (q : Q (.int (if j > i then j else i)) H) : rMaxQ [.int i, .int j] H Q := ⟨i, j, rfl, q⟩
theorem decV (a b : Nat) : decide (V.int (a : Int) = V.int (b : Int)) = decide (a = b) := by
  rw [Bool.eq_iff_iff, decide_eq_true_eq, decide_eq_true_eq]
  exact ⟨fun e => by have := V.int.inj e; omega, fun e => by rw [e]⟩
theorem decI (a b : Int) : decide (V.int a = V.int b) = decide (a = b) := by
  rw [Bool.eq_iff_iff, decide_eq_true_eq, decide_eq_true_eq]
  exact ⟨V.int.inj, fun e => by rw [e]⟩
theorem idx_set {st : List Nat} {p g : Nat} (h : p ∈ st) : st.take (st.idxOf p) ++ [g] ++ st.drop (st.idxOf p + 1) = st.set (st.idxOf p) g := by
  rw [List.set_eq_take_append_cons_drop, if_pos (List.idxOf_lt_length_iff.mpr h), List.append_assoc]
  rfl
theorem nat_of {os : List Int} (h : ∀ k ∈ os, 0 ≤ k) : ∃ hs : List Nat, os = niz hs := ⟨os.map Int.toNat, by
  unfold niz
  rw [List.map_map]
  conv => lhs; rw [← List.map_id os]
  exact List.map_congr_left fun k hk => by have := h k hk; show k = ((k.toNat : Nat) : Int); omega⟩
end Rv
/-! dict methods of a field, list methods of what is made; the leads of a Machine -/
namespace Rv
open PySem PySem.Spec PyProof.Rows L2 RM
section
variable {σ : L2.St} {H : Hp} {Q : VK} {td ty tx to : TE} {t : TA} {K : PySem.W.Frag} {a : Addr} {kvs : List (Key × V)} {xs : List V}
def BMl (K : PySem.W.Frag) (r : V → List V → Hp → VK → Prop) (t : TA) (σ : L2.St) (Q : VK) : VK := fun x H1 => tyV K "list" x H1 ∧ t σ H1 fun vs H2 => r x vs H2 Q
theorem rd_BMx {r : V → List V → Hp → VK → Prop} (q : to σ H fun x H1 => BMl K r t σ Q x H1) : tBM K "list" r to t σ H Q := q
theorem rd_BMl {r : V → List V → Hp → VK → Prop} (h : H a = some (.lst xs)) (q : t σ H fun vs H2 => r (.ref a) vs H2 Q) : BMl K r t σ Q (.ref a) H := ⟨.inl ⟨rfl, _, SqL.of h⟩, q⟩
end
def TrL (K : PySem.W.Frag) (QB : Bool → Hp → Prop) : VK := fun x H1 => ∃ k, TruV K x H1 k ∧ QB k H1
theorem rd_truX {K : PySem.W.Frag} {te : TE} {σ : L2.St} {H : Hp} {QB : Bool → Hp → Prop} (q : te σ H fun x H1 => TrL K QB x H1) : tTruQ K te σ H QB := q
theorem rd_TrL {K : PySem.W.Frag} {H : Hp} {QB : Bool → Hp → Prop} {p : Addr} {xs : List V} (h : H p = some (.lst xs)) (q : QB (!xs.isEmpty) H) : TrL K QB (.ref p) H := ⟨_, .inl ⟨xs, SqL.of h, rfl⟩, q⟩
/-- the dict after some edges; lists are newer than H0 -/
def Lds (H0 H : Hp) (d : Addr) (es : List (Nat × Int × Nat)) (kvs : List (Key × V)) : Prop := H d = some (.dK kvs) ∧
  (∀ s : Nat, (valV kvs (Sum.inl (s : Int)) = none ∧ leadsOf es s = []) ∨ ∃ l ps, valV kvs (Sum.inl (s : Int)) = some (.ref l) ∧ H0 l = none ∧ H l = some (.lst (ps.map V.ref)) ∧ StpsAt H ps (leadsOf es s)) ∧
  ∀ (s t : Nat) (l : Addr), valV kvs (Sum.inl (s : Int)) = some (.ref l) → valV kvs (Sum.inl (t : Int)) = some (.ref l) → s = t
section
variable {H0 H H1 : Hp} {d l0 : Addr} {es : List (Nat × Int × Nat)} {kvs : List (Key × V)} {s : Nat}
theorem Lds.nil (h : H d = some (.dK [])) : Lds H0 H d [] [] := ⟨h, fun s => .inl ⟨rfl, rfl⟩, fun s t l e => by cases e⟩
theorem all_rep (n : Nat) : (List.replicate n true).all id = true := by
  induction n with
  | zero => rfl
  | succ n ih => rw [List.replicate_succ, List.all_cons, ih]; rfl
end
/-- an expression whose value is told by what holds of it -/
def tCutX (t : TE) : TE := fun σ H Q => ∃ Mid : V → Hp → Prop, t σ H Mid ∧ ∀ v H', Mid v H' → Q v H'
theorem pe_cutX {X : Cx} {e : Expr} {t : TE} (h : PE X e t) : PE X e (tCutX t) := ⟨fun pins s σ H Q I q => by
  obtain ⟨Mid, q1, q2⟩ := q
  exact thn (h.run pins s σ H Mid I q1) fun u s' ⟨v, H', I', r, m⟩ => ⟨v, H', I', r, q2 v H' m⟩⟩
theorem rd_altL {t u : TE} {σ : L2.St} {H : Hp} {Q : VK} (q : t σ H Q) : tAlt t u σ H Q := .inl q
theorem rd_altR {t u : TE} {σ : L2.St} {H : Hp} {Q : VK} (q : u σ H Q) : tAlt t u σ H Q := .inr q
end Rv
/-! own classes without a maker of their own -/
namespace Rv
open PySem PySem.Spec PyProof.Rows L2
structure Mk0 (K : PySem.W.Frag) (C : Addr) : Prop where
  makes : PySem.W.makesIn K C = true
  init : PySem.W.findIn K (.ref C) "__init__" = some (some (.builtin "object.__init__"))
  kp : PySem.W.keepIn K (.ref C) = true
section
variable {X : Cx} {C : Addr} {x : Str} {p pos : Pos}
theorem run_mk0 {pins : List (Addr × Obj)} {σ : L2.St} {H : Hp} {s : Shared} {Q : VK} (M : Mk0 X.K C) (I : Inv X pins σ H s)
    (h : ∀ x dx, H x = none → H dx = none → dx ≠ x → Q (.ref x) (upd (upd H dx (.own x)) x (.ins C dx []))) : wpAny (model X.prog X.w) X.A (call (.ref C) []) (EP X pins σ Q) X.xe s := by
  have hq := h (s.heap.objs.size + 1) s.heap.objs.size (I.hok.fresh (Nat.le_succ _)) (I.hok.fresh (Nat.le_refl _)) (Nat.ne_of_lt (Nat.lt_succ_self _))
  have I2 := Inv.made (C := C) I
  have Y := PySem.W.makes_of (M := model X.prog X.w) I.kIn M.makes
  have e2 : ((s.heap.push PySem.W.emptyDict).push (PySem.W.instObj C s.heap.objs.size)).get? (s.heap.objs.size + 1) = some (PySem.W.instObj C s.heap.objs.size) := by
    have z := Heap.get?_push_size (s.heap.push PySem.W.emptyDict) (o := PySem.W.instObj C s.heap.objs.size) rfl
    rwa [Heap.size_push] at z
  have L := PySem.W.looks_findIn (M := model X.prog X.w) I.kIn M.init
  refine wpAny_call ?_
  obtain ⟨hh, g, d, t, os⟩ := s
  refine PySem.W.make_core Y L (fun self => PySem.W.Looks.of_pure (PySem.W.oi_bind self)) (.inr ⟨rfl, rfl⟩) ?_
  have t1 : PySem.W.Looks (model X.prog X.w) ((hh.push PySem.W.emptyDict).push (PySem.W.instObj C hh.objs.size)) (typeOf (.ref (hh.objs.size + 1))) (.ref C) := (PySem.W.Looks.ld e2).andThen .now
  have t2 : PySem.W.Looks (model X.prog X.w) ((hh.push PySem.W.emptyDict).push (PySem.W.instObj C hh.objs.size)) (isInstance (.ref (hh.objs.size + 1)) (.type "object")) true := t1.andThen (Y.top.keeps fun b o e => Heap.get?_push_of_some _ (Heap.get?_push_of_some _ e))
  refine codeAny_call_builtin PySem.W.oi_plain PySem.W.entry_oi (@PySem.W.check_slot (model X.prog X.w) _ _ _ "object.__init__" "object" "__init__" (.ref (hh.objs.size + 1)) [] [] _ PySem.W.oi_kind PySem.W.oi_split t2 (PySem.W.oi_args (.ref (hh.objs.size + 1))) ?_)
  rw [PySem.W.oi_run]
  exact wpAny_pure (And.intro rfl ⟨V.ref (hh.objs.size + 1), _, I2, rfl, hq⟩)
def tMk0 (C : Addr) : TE := fun σ H Q => ∀ x dx, H x = none → H dx = none → dx ≠ x → Q (.ref x) (upd (upd H dx (.own x)) x (.ins C dx []))
theorem pe_mk0 (M : Mk0 X.K C) (hg : Gl X x) (hm : X.mg x = some (.ref C)) (hdb : (x == ("__debug__" : Str)) = false := by decide) : PE X (.Call (.Name x p) [] [] pos) (tMk0 C) := by
  refine ⟨fun pins s σ H Q I h => ?_⟩
  refine wpAny_Call_Name_kw (ld_glob I hg hm ?_ hdb)
  exact PySem.W.callWith_K0 I.kIn M.kp (run_mk0 M I h)
theorem rd_mk0 {σ : L2.St} {H : Hp} {Q : VK} (q : ∀ H1 x dx, Same H H1 → H x = none → H1 x = some (.ins C dx []) → Q (.ref x) H1) : tMk0 C σ H Q := fun x dx nx nd ne =>
  q _ x dx (same_new (same_new (Same.refl _) nd) (by rw [upd_ne ne.symm]; exact nx)) nx upd_same
end
end Rv
/-! the mathematics of k09: simple rules, Either, Lagging -/
namespace RU
open RM
inductive Lf where
  | once | top | mark
  | pts (nw : Bool) (ns : List Nat)
  | late (o : Option (List Nat))
inductive Rl where
  | leaf (l : Lf)
  | lag (n : Nat)
  | eit (ls : List Lf)
def ahd (p len : Nat) : List Stp := if p < len then [((p : Int), [p + 1])] else []
def psd (nw : Bool) (ns : List Nat) (p : Nat) : List Nat := if nw = true then ((0 :: ns).filter fun g => decide (g ≤ p)).drop (((0 :: ns).filter fun g => decide (g ≤ p)).length - 1) else (0 :: ns).filter fun g => decide (g ≤ p)
def fur : Lf → Nat → List Stp
  | .once, _ => []
  | .top, p => if 0 < p then [(-1, [0])] else []
  | .mark, p => (List.range p).map fun j => (-1, [j])
  | .pts nw ns, p => ((psd nw ns p).filter fun g => decide (g < p)).map fun g => (-1, [g])
  | .late none, p => (List.range p).map fun j : Nat => ((j : Int), [p])
  | .late (some ns), p => ((List.range p).filter fun j => decide (j ∈ ns)).map fun j : Nat => ((j : Int), [p])
def lsel : Option (List Nat) → Nat → Bool
  | none, _ => true
  | some ns, j => decide (j ∈ ns)
theorem fur_late (o : Option (List Nat)) (p : Nat) : fur (.late o) p = ((List.range p).filter fun j => lsel o j).map fun j : Nat => ((j : Int), [p]) := by
  cases o with
  | none => show (List.range p).map _ = _; rw [List.filter_eq_self.mpr (show ∀ a ∈ List.range p, lsel none a = true from fun _ _ => rfl)]
  | some ns => rfl
theorem lsel_succ (o : Option (List Nat)) (i : Nat) : (List.range (i + 1)).filter (fun j => lsel o j) = (List.range i).filter (fun j => lsel o j) ++ if lsel o i = true then [i] else [] := by
  rw [List.range_succ, List.filter_append, List.filter_cons]
  rfl
def push (acc : List Stp) (s : Stp) : List Stp := if s ∈ acc then acc else acc ++ [s]
def furE (ls : List Lf) (p : Nat) : List Stp := ls.foldl (fun acc l => (fur l p).foldl push acc) []
def furR : Rl → Nat → List Stp
  | .leaf l, p => fur l p
  | .eit ls, p => furE ls p
  | .lag _, _ => []
def LOk : Lf → Prop
  | .pts _ ns => ns.length ≤ 12 ∧ ns.Pairwise (· < ·) ∧ ∀ x ∈ ns, 1 ≤ x ∧ x ≤ 99
  | .late (some ns) => ns.length ≤ 12 ∧ ns.Pairwise (· < ·) ∧ ∀ x ∈ ns, x ≤ 99
  | _ => True
def ROk : Rl → Prop
  | .leaf l => LOk l
  | .lag n => n ≤ 99
  | .eit ls => 1 ≤ ls.length ∧ ls.length ≤ 7 ∧ ∀ l ∈ ls, LOk l
def stepsR : Rl → List Nat → Nat → List Stp
  | .lag n, st, len => lsteps n (st.getD 0 0) (st.getD 1 0) len
  | r, st, len => ahd (st.getD 0 0) len ++ furR r (st.getD 0 0)
def firstR : Rl → List Nat
  | .lag _ => [0, 0]
  | _ => [0]
def VR : Rl → Nat → List Nat → Prop
  | .lag _, len, st => ∃ p h, st = [p, h] ∧ p ≤ len ∧ h ≤ 60
  | _, len, st => ∃ p, st = [p] ∧ p ≤ len
def onw : List Nat → Stp
  | [p, h] => ((p : Int), [p + 1, max h (p + 1)])
  | st => ((st.getD 0 0 : Int), [st.getD 0 0 + 1])
theorem fur_st (l : Lf) (p : Nat) : ∀ s ∈ fur l p, ∃ j, s.2 = [j] ∧ j ≤ p := fun s hs => by
  cases l with
  | once => cases hs
  | top =>
    have h : s ∈ (if 0 < p then [((-1 : Int), [0])] else []) := hs
    split at h
    · rw [List.mem_singleton.mp h]; exact ⟨0, rfl, Nat.zero_le _⟩
    · cases h
  | mark =>
    obtain ⟨j, hj, rfl⟩ := List.mem_map.mp hs
    exact ⟨j, rfl, Nat.le_of_lt (List.mem_range.mp hj)⟩
  | pts nw ns =>
    obtain ⟨j, hj, rfl⟩ := List.mem_map.mp hs
    exact ⟨j, rfl, Nat.le_of_lt (of_decide_eq_true (List.mem_filter.mp hj).2)⟩
  | late o =>
    cases o with
    | none => obtain ⟨j, hj, rfl⟩ := List.mem_map.mp hs; exact ⟨p, rfl, Nat.le_refl _⟩
    | some ns => obtain ⟨j, hj, rfl⟩ := List.mem_map.mp hs; exact ⟨p, rfl, Nat.le_refl _⟩
theorem psd_len (nw : Bool) (ns : List Nat) (p : Nat) : (psd nw ns p).length ≤ ns.length + 1 := by
  have h := List.length_filter_le (fun g => decide (g ≤ p)) (0 :: ns)
  rw [List.length_cons] at h
  unfold psd
  split
  · rw [List.length_drop]; omega
  · exact h
theorem fur_len {l : Lf} (ok : LOk l) {p : Nat} (h : p ≤ 60) : (fur l p).length ≤ 60 := by
  cases l with
  | once => exact Nat.zero_le _
  | top =>
    show (if 0 < p then [((-1 : Int), [0])] else []).length ≤ 60
    split <;> simp
  | mark => show ((List.range p).map _).length ≤ 60; rw [List.length_map, List.length_range]; exact h
  | pts nw ns =>
    show (((psd nw ns p).filter _).map _).length ≤ 60
    rw [List.length_map]
    have h1 := List.length_filter_le (fun g => decide (g < p)) (psd nw ns p)
    have h2 := psd_len nw ns p
    have h3 := ok.1
    omega
  | late o =>
    cases o with
    | none => show ((List.range p).map _).length ≤ 60; rw [List.length_map, List.length_range]; exact h
    | some ns =>
      show (((List.range p).filter _).map _).length ≤ 60
      rw [List.length_map]
      exact Nat.le_trans (List.length_filter_le _ _) (by rw [List.length_range]; exact h)
theorem push_mem {acc : List Stp} {s t : Stp} (h : t ∈ push acc s) : t ∈ acc ∨ t = s := by
  unfold push at h
  split at h
  · exact .inl h
  · rcases List.mem_append.mp h with k | k
    · exact .inl k
    · exact .inr (List.mem_singleton.mp k)
theorem push_len (acc : List Stp) (s : Stp) : (push acc s).length ≤ acc.length + 1 := by
  unfold push
  split
  · omega
  · rw [List.length_append, List.length_singleton]
    omega
theorem fold_mem : ∀ {xs acc : List Stp} {t : Stp}, t ∈ xs.foldl push acc → t ∈ acc ∨ t ∈ xs
  | [], _, _, h => .inl h
  | x :: r, acc, t, h => by
    rcases fold_mem (xs := r) (acc := push acc x) h with k | k
    · rcases push_mem k with z | z
      · exact .inl z
      · exact .inr (z ▸ List.mem_cons_self ..)
    · exact .inr (List.mem_cons_of_mem _ k)
theorem fold_len : ∀ (xs acc : List Stp), (xs.foldl push acc).length ≤ acc.length + xs.length
  | [], _ => Nat.le_refl _
  | x :: r, acc => by
    have h1 := fold_len r (push acc x)
    have h2 := push_len acc x
    rw [List.foldl_cons, List.length_cons]
    omega
def accE (ls : List Lf) (p : Nat) (acc : List Stp) : List Stp := ls.foldl (fun acc l => (fur l p).foldl push acc) acc
theorem accE_mem : ∀ {ls : List Lf} {p : Nat} {acc : List Stp} {t : Stp}, t ∈ accE ls p acc → t ∈ acc ∨ ∃ l ∈ ls, t ∈ fur l p
  | [], _, _, _, h => .inl h
  | l :: r, p, acc, t, h => by
    rcases accE_mem (ls := r) (acc := (fur l p).foldl push acc) h with k | ⟨m, hm, k⟩
    · rcases fold_mem k with z | z
      · exact .inl z
      · exact .inr ⟨l, List.mem_cons_self .., z⟩
    · exact .inr ⟨m, List.mem_cons_of_mem _ hm, k⟩
theorem accE_len : ∀ {ls : List Lf} {p : Nat} (acc : List Stp), (∀ l ∈ ls, LOk l) → p ≤ 60 → (accE ls p acc).length ≤ acc.length + 60 * ls.length
  | [], _, _, _, _ => by simp [accE]
  | l :: r, p, acc, ok, h => by
    have h1 := accE_len (ls := r) ((fur l p).foldl push acc) (fun m hm => ok m (List.mem_cons_of_mem _ hm)) h
    have h2 := fold_len (fur l p) acc
    have h3 := fur_len (ok l (List.mem_cons_self ..)) h
    rw [List.length_cons]
    show (accE r p ((fur l p).foldl push acc)).length ≤ _
    omega
theorem furR_st {r : Rl} {p : Nat} : ∀ s ∈ furR r p, ∃ j, s.2 = [j] ∧ j ≤ p := fun s hs => by
  cases r with
  | leaf l => exact fur_st l p s hs
  | lag n => cases hs
  | eit ls =>
    rcases accE_mem (acc := []) hs with k | ⟨l, _, k⟩
    · cases k
    · exact fur_st l p s k
theorem furR_len {r : Rl} (ok : ROk r) {p : Nat} (h : p ≤ 60) : (furR r p).length ≤ 420 := by
  cases r with
  | leaf l => exact Nat.le_trans (fur_len ok h) (by decide)
  | lag n => exact Nat.zero_le _
  | eit ls =>
    have := accE_len (ls := ls) (p := p) [] ok.2.2 h
    have h2 := ok.2.1
    rw [List.length_nil] at this
    show (accE ls p []).length ≤ 420
    omega
theorem ahd_len (p len : Nat) : (ahd p len).length ≤ 1 := by unfold ahd; split <;> simp
theorem first_okR (r : Rl) (len : Nat) : VR r len (firstR r) := by
  cases r with
  | lag a => exact ⟨0, 0, rfl, Nat.zero_le _, Nat.zero_le _⟩
  | leaf a => exact ⟨0, rfl, Nat.zero_le _⟩
  | eit a => exact ⟨0, rfl, Nat.zero_le _⟩
theorem steps_lenR {r : Rl} (ok : ROk r) {len : Nat} (l60 : len ≤ 60) {st : List Nat} (v : VR r len st) : (stepsR r st len).length ≤ 421 := by
  have simple : ∀ p, p ≤ len → (ahd p len ++ furR r p).length ≤ 421 := fun p hp => by
    rw [List.length_append]
    have h1 := ahd_len p len
    have h2 := furR_len ok (p := p) (by omega)
    omega
  cases r with
  | lag a => exact Nat.le_trans (steps_len (sp := .lag a) (len := len) ok l60 v) (by decide)
  | leaf a => obtain ⟨p, rfl, hp⟩ := v; exact simple p hp
  | eit a => obtain ⟨p, rfl, hp⟩ := v; exact simple p hp
theorem step_okR {r : Rl} (ok : ROk r) {len : Nat} (l60 : len ≤ 60) {st : List Nat} (v : VR r len st) {x : Stp} (hx : x ∈ stepsR r st len) : VR r len x.2 := by
  have simple : ∀ p, p ≤ len → x ∈ ahd p len ++ furR r p → ∃ q, x.2 = [q] ∧ q ≤ len := fun p hp h => by
    rcases List.mem_append.mp h with k | k
    · unfold ahd at k
      split at k
      · rw [List.mem_singleton.mp k]; exact ⟨_, rfl, by omega⟩
      · cases k
    · obtain ⟨j, e, hj⟩ := furR_st x k
      exact ⟨j, e, by omega⟩
  cases r with
  | lag a => exact step_ok (sp := .lag a) ok l60 v hx
  | leaf a => obtain ⟨p, rfl, hp⟩ := v; exact simple p hp hx
  | eit a => obtain ⟨p, rfl, hp⟩ := v; exact simple p hp hx
/-- what does not hang on the length -/
def rest (r : Rl) (st : List Nat) : List Stp := match r with
  | .lag n => (List.range (st.getD 0 0 - (st.getD 1 0 - n))).map fun i => (-1, [st.getD 1 0 - n + i, st.getD 1 0])
  | r => furR r (st.getD 0 0)
theorem steps_split {r : Rl} {len : Nat} {st : List Nat} {m : Nat} (v : VR r m st) : stepsR r st len = (if st.getD 0 0 < len then [onw st] else []) ++ rest r st := by
  cases r with
  | lag a => obtain ⟨p, h, rfl, _, _⟩ := v; rfl
  | leaf a => obtain ⟨p, rfl, _⟩ := v; rfl
  | eit a => obtain ⟨p, rfl, _⟩ := v; rfl
theorem VR.pos {r : Rl} {len : Nat} {st : List Nat} (v : VR r len st) : st.getD 0 0 ≤ len := by
  cases r with
  | lag a => obtain ⟨p, h, rfl, hp, _⟩ := v; exact hp
  | leaf a => obtain ⟨p, rfl, hp⟩ := v; exact hp
  | eit a => obtain ⟨p, rfl, hp⟩ := v; exact hp
end RU
/-! for k09: list(d) of a dict by steps; steps, rules in the heap -/
namespace Rv
open PySem PySem.Spec PyProof.Rows L2 RM RU
/-! list(d) -/
def rLstN (P : Program) (w : World) : List V → Hp → VK → Prop := fun xs H Q => ∃ (d : Addr) (es : List NE), xs = [V.ref d] ∧ H d = some (DNO P w d es) ∧ ∀ p, H p = none → Q (.ref p) (upd H p (.lst (es.map fun x => V.ref x.2.1)))
theorem nrel_refs : ∀ {xs : List NE} {ys : List (NestedKey × Addr × Value)}, Paired NRel xs ys → ys.map (fun y => Value.ref y.2.1) = xs.map fun x => Value.ref x.2.1
  | [], _, r => by cases r; rfl
  | x :: xs, _, r => by
    cases r with
    | cons h t => rw [List.map_cons, List.map_cons, h.2.1, nrel_refs t]
theorem call_lstN {X : Cx} (hc : X.calm = true) : CallR X (.type "list") (rLstN X.prog X.w) := by
  intro pins s σ H xs us Q I r h
  obtain ⟨d, es0, rfl, hd, q⟩ := h
  obtain ⟨u, rfl, rx⟩ := r.one
  cases rx
  obtain ⟨z, hz0, ys, pr, o, es, ep, ho, hx, hdt, he, hn⟩ : DNφ X.prog X.w d es0 s.heap := (I.hok d _ hd).1
  have l1 : es.size = ys.length := by rw [← Array.length_toList, he, List.length_map]
  have l2 : es0.length = ys.length := Paired.length pr
  refine PySem.W.kdl_call (kdl_raw z hx hdt) (I.ok.hd hc) ho (by omega) fun h' tk acc' c' kp e it => ?_
  have ea : acc'.toList = ys.map fun y => Value.ref y.2.1 := by
    have hl : acc'.toList.length = ys.length := by rw [Array.length_toList, it.1]; exact l1
    apply List.ext_getElem?
    intro j
    rw [List.getElem?_map]
    cases hj : acc'.toList[j]? with
    | none =>
      have h1 := List.getElem?_eq_none_iff.mp hj
      rw [List.getElem?_eq_none (by omega)]
      rfl
    | some v =>
      obtain ⟨en, hen, hv⟩ := it.2 j v (by rw [← Array.getElem?_toList]; exact hj)
      have qe : es.toList[j]? = (ys.map (entryOfKey (nestedKind X.prog X.w)))[j]? := by rw [he]
      rw [Array.getElem?_toList, hen, List.getElem?_map] at qe
      cases hb : ys[j]? with
      | none => rw [hb] at qe; exact nomatch (show some en = none from qe)
      | some b =>
        rw [hb] at qe
        have e2 : en = entryOfKey (nestedKind X.prog X.w) b := Option.some.inj qe
        rw [hv, e2]
        rfl
  have eb : acc'.toList = (es0.map fun x => x.2.1).map Value.ref := by rw [ea, nrel_refs pr, List.map_map]; rfl
  have rv : Vals ((es0.map fun x => x.2.1).map V.ref) acc'.toList := by rw [eb]; exact vals_refs _
  have em : (es0.map fun x => x.2.1).map V.ref = es0.map fun x => V.ref x.2.1 := by rw [List.map_map]; rfl
  have hz : ((es0.map fun x => x.2.1).map V.ref).length ≤ sizeLine := by rw [List.length_map, List.length_map]; exact hz0
  have q2 := q s.heap.objs.size (I.hok.fresh (Nat.le_refl _))
  rw [← em] at q2
  refine ⟨.ref s.heap.objs.size, _, I.laid (t' := tk) (o := .lst ((es0.map fun x => x.2.1).map V.ref)) kp (Nat.le_refl _) ?_, rfl, q2⟩
  exact ⟨hz, acc'.toList, c', rv, by rw [Array.toArray_toList]; exact e⟩
/-! steps whose states are plain tuples -/
def SAt (H : Hp) (p : Addr) (s : Stp) : Prop := ∃ q, H p = some (.tup [.int s.1, .ref q]) ∧ H q = some (.tup (nvs s.2))
def SsAt (H : Hp) (ps : List Addr) (ss : List Stp) : Prop := ps.length = ss.length ∧ ∀ (i : Nat) (s : Stp), ss[i]? = some s → ∃ p, ps[i]? = some p ∧ SAt H p s
section
variable {K : PySem.W.Frag} {H H' : Hp} {p : Addr} {s : Stp} {ps qs : List Addr} {ss ts : List Stp}
theorem SAt.kt (h : SAt H p s) (k : Kt H H') : SAt H' p s := by obtain ⟨q, a, b⟩ := h; exact ⟨q, k _ _ a, k _ _ b⟩
theorem SsAt.kt (h : SsAt H ps ss) (k : Kt H H') : SsAt H' ps ss := ⟨h.1, fun i s e => by obtain ⟨p, a, b⟩ := h.2 i s e; exact ⟨p, a, b.kt k⟩⟩
theorem SsAt.same (h : SsAt H ps ss) (S : Same H H') : SsAt H' ps ss := h.kt (Kt.same S)
theorem SsAt.nil : SsAt H [] [] := ⟨rfl, fun i s e => by simp at e⟩
theorem SsAt.app (h : SsAt H ps ss) (k : SsAt H qs ts) : SsAt H (ps ++ qs) (ss ++ ts) := ⟨by rw [List.length_append, List.length_append, h.1, k.1], fun i s e => by
  by_cases z : i < ss.length
  · rw [List.getElem?_append_left z] at e
    obtain ⟨p, e1, e2⟩ := h.2 i s e
    exact ⟨p, by rw [List.getElem?_append_left (by rw [h.1]; exact z)]; exact e1, e2⟩
  · rw [List.getElem?_append_right (by omega)] at e
    obtain ⟨p, e1, e2⟩ := k.2 _ s e
    exact ⟨p, by rw [List.getElem?_append_right (by rw [h.1]; omega), h.1]; exact e1, e2⟩⟩
theorem SsAt.one (h : SAt H p s) : SsAt H [p] [s] := ⟨rfl, fun i t e => by
  cases i with
  | zero => cases e; exact ⟨p, rfl, h⟩
  | succ i => simp at e⟩
theorem SsAt.snoc (h : SsAt H ps ss) (k : SAt H p s) : SsAt H (ps ++ [p]) (ss ++ [s]) := h.app (.one k)
theorem SsAt.at (h : SsAt H ps ss) {i : Nat} (hi : i < ss.length) : ∃ p, ps[i]? = some p ∧ SAt H p ss[i] := h.2 i _ (List.getElem?_eq_getElem hi)
theorem nizi : ∀ {a b : List Nat}, niz a = niz b → a = b
  | [], [], _ => rfl
  | [], _ :: _, h => by cases h
  | _ :: _, [], h => by cases h
  | x :: r, y :: t, h => by
    obtain ⟨h1, h2⟩ := List.cons.inj (show (x : Int) :: niz r = (y : Int) :: niz t from h)
    rw [nizi h2, show x = y by omega]
def nkS (s : Stp) : NK := (s.1, niz s.2)
theorem SAt.key (h : SAt H p s) : KAt H (nkS s) p := h
theorem nkS_inj {a b : Stp} (e : nkS a = nkS b) : a = b := by
  have h1 : a.1 = b.1 := congrArg (fun k : NK => k.1) e
  have h2 : niz a.2 = niz b.2 := congrArg (fun k : NK => k.2) e
  exact Prod.ext h1 (nizi h2)
end
/-! rules -/
/-- all objects but lists stay -/
def Ki (H H' : Hp) : Prop := ∀ a o, (∀ xs, o ≠ .lst xs) → H a = some o → H' a = some o
section
variable {H H' H1 : Hp} {B : Box} {K : PySem.W.Frag} {a p : Addr}
theorem Ki.kt (k : Ki H H') : Kt H H' := fun a xs h => k a _ (fun ys e => by cases e) h
theorem Ki.same (S : Same H H') : Ki H H' := fun a o _ h => S _ _ h
theorem Ki.wg (w : Wg B H H') : Ki H H' := fun a o n h => w.obj h n
theorem Ki.mut {xs : List V} {o : HO} (h : H p = some (.lst xs)) : Ki H (upd H p o) := fun a u n e => by
  rw [upd_ne fun z => by rw [z, h] at e; exact n xs (Option.some.inj e).symm]
  exact e
def LAt (K : PySem.W.Frag) (H : Hp) (a : Addr) : Lf → Prop
  | .once => ∃ dx, H a = some (.ins (atTop K "Rule") dx [])
  | .top => ∃ dx, H a = some (.ins (atTop K "FromTop") dx [])
  | .mark => ∃ dx, H a = some (.ins (atTop K "FromMark") dx [])
  | .pts nw ns => ∃ dx t, H a = some (.ins (atTop K "FromPoints") dx [("points", .ref t), ("newest", .bl nw)]) ∧ H t = some (.tup (nvs ns))
  | .late none => ∃ dx, H a = some (.ins (atTop K "Late") dx [("lines", .non)])
  | .late (some ns) => ∃ dx t, H a = some (.ins (atTop K "Late") dx [("lines", .ref t)]) ∧ H t = some (.tup (nvs ns))
def LsAt (K : PySem.W.Frag) (H : Hp) (as : List Addr) (ls : List Lf) : Prop := as.length = ls.length ∧ ∀ (i : Nat) (l : Lf), ls[i]? = some l → ∃ a, as[i]? = some a ∧ LAt K H a l
def RAt (K : PySem.W.Frag) (H : Hp) (a : Addr) : Rl → Prop
  | .leaf l => LAt K H a l
  | .lag n => ∃ dx, H a = some (.ins (atTop K "Lagging") dx [("age", .int (n : Int))])
  | .eit ls => ∃ dx t as, H a = some (.ins (atTop K "Either") dx [("parts", .ref t)]) ∧ H t = some (.tup (as.map V.ref)) ∧ LsAt K H as ls
theorem LAt.ki {l : Lf} (h : LAt K H a l) (k : Ki H H') : LAt K H' a l := by
  have no : ∀ {C dx : Addr} {fs : List (Str × V)} (xs : List V), HO.ins C dx fs ≠ .lst xs := fun xs e => by cases e
  cases l with
  | once => obtain ⟨dx, h⟩ := h; exact ⟨dx, k _ _ no h⟩
  | top => obtain ⟨dx, h⟩ := h; exact ⟨dx, k _ _ no h⟩
  | mark => obtain ⟨dx, h⟩ := h; exact ⟨dx, k _ _ no h⟩
  | pts nw ns => obtain ⟨dx, t, h, ht⟩ := h; exact ⟨dx, t, k _ _ no h, k.kt _ _ ht⟩
  | late o =>
    cases o with
    | none => obtain ⟨dx, h⟩ := h; exact ⟨dx, k _ _ no h⟩
    | some ns => obtain ⟨dx, t, h, ht⟩ := h; exact ⟨dx, t, k _ _ no h, k.kt _ _ ht⟩
theorem LsAt.ki {as : List Addr} {ls : List Lf} (h : LsAt K H as ls) (k : Ki H H') : LsAt K H' as ls := ⟨h.1, fun i l e => by obtain ⟨a, e1, e2⟩ := h.2 i l e; exact ⟨a, e1, e2.ki k⟩⟩
theorem RAt.ki {r : Rl} (h : RAt K H a r) (k : Ki H H') : RAt K H' a r := by
  have no : ∀ {C dx : Addr} {fs : List (Str × V)} (xs : List V), HO.ins C dx fs ≠ .lst xs := fun xs e => by cases e
  cases r with
  | leaf l => exact LAt.ki h k
  | lag n => obtain ⟨dx, h⟩ := h; exact ⟨dx, k _ _ no h⟩
  | eit ls => obtain ⟨dx, t, as, h, ht, hl⟩ := h; exact ⟨dx, t, as, k _ _ no h, k.kt _ _ ht, hl.ki k⟩
end
theorem ssAt_of {H : Hp} : ∀ {xs : List NE} {acc : List Stp}, keysN xs = acc.map nkS → KsAt H xs → SsAt H (xs.map fun x => x.2.1) acc
  | [], [], _, _ => .nil
  | [], _ :: _, e, _ => by cases e
  | _ :: _, [], e, _ => by cases e
  | x :: xs, s :: acc, e, t => by
    obtain ⟨e1, e2⟩ := List.cons.inj (show x.1 :: keysN xs = nkS s :: acc.map nkS from e)
    have h1 := t x (List.mem_cons_self ..)
    rw [e1] at h1
    exact (SsAt.one (show SAt H x.2.1 s from h1)).app (ssAt_of e2 fun y hy => t y (List.mem_cons_of_mem _ hy))
theorem push_keys {acc : List Stp} {s : Stp} {ks : List NK} (h1 : nkS s ∈ acc.map nkS → ks = acc.map nkS) (h2 : nkS s ∉ acc.map nkS → ks = acc.map nkS ++ [nkS s]) : ks = (push acc s).map nkS := by
  have m : nkS s ∈ acc.map nkS ↔ s ∈ acc := ⟨fun h => by
    obtain ⟨t, ht, e⟩ := List.mem_map.mp h
    rw [← nkS_inj e]
    exact ht, fun h => List.mem_map.mpr ⟨s, h, rfl⟩⟩
  unfold push
  by_cases z : s ∈ acc
  · rw [if_pos z]; exact h1 (m.mpr z)
  · rw [if_neg z, List.map_append]; exact h2 fun w => z (m.mp w)
theorem cut_m1 (xs : List V) : cutV xs (some (-1)) none = xs.drop (xs.length - 1) := by
  unfold cutV
  show List.take (xs.length - ((-1 : Int) + (xs.length : Int)).toNat) (List.drop (((-1 : Int) + (xs.length : Int)).toNat) xs) = _
  rw [show ((-1 : Int) + (xs.length : Int)).toNat = xs.length - 1 by omega]
  exact List.take_of_length_le (by rw [List.length_drop]; omega)
theorem cut_1 (xs : List V) : cutV xs (some 1) none = xs.drop 1 := by
  unfold cutV
  show List.take (xs.length - min 1 xs.length) (List.drop (min 1 xs.length) xs) = _
  cases xs with
  | nil => rfl
  | cons a r =>
    rw [show min 1 (a :: r).length = 1 by rw [List.length_cons]; omega]
    exact List.take_of_length_le (by rw [List.length_drop]; omega)
def LnV (H : Hp) (v : V) : Option (List Nat) → Prop
  | none => v = .non
  | some ns => ∃ t, v = .ref t ∧ H t = some (.tup (nvs ns))
/-! specs -/
def LSpc (H : Hp) (a : Addr) : Lf → Prop
  | .once => H a = some (.tup [.str "once"])
  | .top => H a = some (.tup [.str "top"])
  | .mark => H a = some (.tup [.str "mark"])
  | .pts true ns => ∃ t, H a = some (.tup [.str "points", .ref t]) ∧ H t = some (.tup (nvs ns))
  | .pts false ns => ∃ t, H a = some (.tup [.str "anypoint", .ref t]) ∧ H t = some (.tup (nvs ns))
  | .late none => H a = some (.tup [.str "late", .non])
  | .late (some ns) => ∃ t, H a = some (.tup [.str "late", .ref t]) ∧ H t = some (.tup (nvs ns))
theorem LSpc.kt {H H' : Hp} {a : Addr} {l : Lf} (h : LSpc H a l) (k : Kt H H') : LSpc H' a l := by
  match l, h with
  | .once, h => exact k _ _ h
  | .top, h => exact k _ _ h
  | .mark, h => exact k _ _ h
  | .pts true ns, h => obtain ⟨t, h1, h2⟩ := h; exact ⟨t, k _ _ h1, k _ _ h2⟩
  | .pts false ns, h => obtain ⟨t, h1, h2⟩ := h; exact ⟨t, k _ _ h1, k _ _ h2⟩
  | .late none, h => exact k _ _ h
  | .late (some ns), h => obtain ⟨t, h1, h2⟩ := h; exact ⟨t, k _ _ h1, k _ _ h2⟩
def LsSpc (H : Hp) (as : List Addr) (ls : List Lf) : Prop := as.length = ls.length ∧ ∀ (i : Nat) (l : Lf), ls[i]? = some l → ∃ a, as[i]? = some a ∧ LSpc H a l
theorem LsSpc.kt {H H' : Hp} {as : List Addr} {ls : List Lf} (h : LsSpc H as ls) (k : Kt H H') : LsSpc H' as ls := ⟨h.1, fun i l e => by obtain ⟨a, e1, e2⟩ := h.2 i l e; exact ⟨a, e1, e2.kt k⟩⟩
theorem LsSpc.snoc {H : Hp} {as : List Addr} {ls : List Lf} {a : Addr} {l : Lf} (h : LsSpc H as ls) (k : LSpc H a l) : LsSpc H (as ++ [a]) (ls ++ [l]) := ⟨by rw [List.length_append, List.length_append, h.1]; rfl, fun i m e => by
  by_cases z : i < ls.length
  · rw [List.getElem?_append_left z] at e
    obtain ⟨b, e1, e2⟩ := h.2 i m e
    exact ⟨b, by rw [List.getElem?_append_left (by rw [h.1]; exact z)]; exact e1, e2⟩
  · have hi : i = ls.length := by
      have := (List.getElem?_eq_some_iff.mp e).1
      rw [List.length_append, List.length_singleton] at this
      omega
    subst hi
    rw [List.getElem?_append_right (Nat.le_refl _), Nat.sub_self] at e
    cases e
    exact ⟨a, by rw [List.getElem?_append_right (by rw [h.1]; exact Nat.le_refl _), h.1, Nat.sub_self]; rfl, k⟩⟩
def RSpc (M : List Addr) (H : Hp) (a : Addr) : Rl → Prop
  | .leaf l => LSpc H a l
  | .lag n => H a = some (.tup [.str "lag", .int (n : Int)])
  | .eit ls => ∃ l as, H a = some (.tup [.str "either", .ref l]) ∧ H l = some (.lst (as.map V.ref)) ∧ l ∉ M ∧ LsSpc H as ls
theorem RSpc.kp {M : List Addr} {H H' : Hp} {a : Addr} {r : Rl} (h : RSpc M H a r) (k : KpM M H H') : RSpc M H' a r := by
  cases r with
  | leaf l => exact LSpc.kt h k.kt
  | lag n => exact k.kt _ _ h
  | eit ls => obtain ⟨l, as, h1, h2, h3, h4⟩ := h; exact ⟨l, as, k.kt _ _ h1, k _ _ (.inl h3) h2, h3, h4.kt k.kt⟩
theorem VR.len {r : Rl} {m : Nat} {st : List Nat} (v : VR r m st) {n : Nat} {st2 : List Nat} (v2 : VR r n st2) : st2.length = st.length := by
  cases r with
  | lag a => obtain ⟨p, h, rfl, _⟩ := v; obtain ⟨p2, h2, rfl, _⟩ := v2; rfl
  | leaf a => obtain ⟨p, rfl, _⟩ := v; obtain ⟨p2, rfl, _⟩ := v2; rfl
  | eit a => obtain ⟨p, rfl, _⟩ := v; obtain ⟨p2, rfl, _⟩ := v2; rfl
theorem LsAt.snoc {K : PySem.W.Frag} {H : Hp} {as : List Addr} {ls : List Lf} {a : Addr} {l : Lf} (h : LsAt K H as ls) (k : LAt K H a l) : LsAt K H (as ++ [a]) (ls ++ [l]) := ⟨by rw [List.length_append, List.length_append, h.1]; rfl, fun i m e => by
  by_cases z : i < ls.length
  · rw [List.getElem?_append_left z] at e
    obtain ⟨b, e1, e2⟩ := h.2 i m e
    exact ⟨b, by rw [List.getElem?_append_left (by rw [h.1]; exact z)]; exact e1, e2⟩
  · have hi : i = ls.length := by
      have := (List.getElem?_eq_some_iff.mp e).1
      rw [List.length_append, List.length_singleton] at this
      omega
    subst hi
    rw [List.getElem?_append_right (Nat.le_refl _), Nat.sub_self] at e
    cases e
    exact ⟨a, by rw [List.getElem?_append_right (by rw [h.1]; exact Nat.le_refl _), h.1, Nat.sub_self]; rfl, k⟩⟩
theorem Ki.new {H : Hp} {p : Addr} {o : HO} (h : H p = none) : Ki H (upd H p o) := fun a u _ e => by
  rw [upd_ne fun z => by rw [z, h] at e; cases e]
  exact e
/-- as lc_acc2: all but lists stay -/
theorem lc_acc4 {J : It} {n : Nat} {G : Hp → Prop} {Y : Nat → Hp → V → Hp → Prop} (w : Walk J n G Y) {g : TG} {tt : TT} {te : TE} {vs : List Nat} {σ : L2.St} {H0 : Hp} {Q : VK} (Pv : Nat → List V → Hp → Prop) (p0 : Pv 0 [] H0)
    (st : ∀ i acc H H', Ki H H' → Pv i acc H → Pv i acc H') (sm : ∀ i acc H, i ≤ n → Pv i acc H → acc.length < 1000) (hG : ∀ H, Same H0 H → G H)
    (hs : ∀ i x H H' acc (Qc : VK) (R : Hp → Prop), i < n → Same H0 H → Pv i acc H → Y i H x H' → (∀ y H4, Same H H4 → Pv (i + 1) (acc ++ [y]) H4 → Qc y H4) → (∀ H4, Same H H4 → Pv (i + 1) acc H4 → R H4) →
      g x (wipe σ vs) H' fun σ2 H2 => wipe σ2 vs = wipe σ vs ∧ tt σ2 H2 fun b H3 => if b = true then te σ2 H3 Qc else R H3)
    (hd : ∀ H D acc, Same H0 H → H0 D = none → H D = some (.lst acc) → Pv n acc H → Q (.ref D) H) : Lc J g tt te vs σ H0 Q := fun D nD =>
  lc_it w (Qd := fun H => Q (.ref D) H) (fun i H => Same H0 H ∧ i ≤ n ∧ ∃ acc, H D = some (.lst acc) ∧ Pv i acc H) ⟨same_new (Same.refl _) nD, Nat.zero_le _, [], upd_same, st _ _ _ _ (Ki.new nD) p0⟩ (fun i H _ p => hG H p.1)
    (fun i x H H' hi p y => by
      obtain ⟨w0, hin, acc, hD, pa⟩ := p
      refine hs i x H H' acc _ _ hi w0 pa y (fun z H4 S4 pz => ?_) (fun H4 S4 pz => ⟨w0.trans S4, hi, acc, S4 _ _ hD, pz⟩)
      have hD4 := S4 _ _ hD
      exact ⟨acc, hD4, small1000 (by have := sm i acc H (by omega) pa; omega), same_mut (w0.trans S4) nD, hi, _, upd_same, st _ _ _ _ (Ki.mut hD4) pz⟩)
    (fun H p => by
      obtain ⟨w0, _, acc, hD, pa⟩ := p
      exact hd H D acc w0 nD hD pa)
end Rv
/-! own classes: makers with keyword-only parameters, defaults, a star; isinstance -/
namespace Rv
open PySem PySem.Spec PyProof.Rows L2
structure CIs (K : PySem.W.Frag) (C : Addr) : Prop where
  cl : Cls K C
  ha : PySem.W.findIn K (.ref C) "__class__" = some (some (.builtin "object.__class__"))
  hn : PySem.W.specialIn K (.builtin "object.__class__") "__get__" = some (some (.builtin "getset_descriptor.__get__"))
  htk : PySem.W.takesIn K (.builtin "object.__class__") = some true
  hm : PySem.W.mroIn K C (.type "object") = some true
structure IDefK (K : PySem.W.Frag) (C : Addr) (qual : Str) (st : Stmt) (ps : List Str) (nm : Str) (dv : V) (f : Addr) (fd : FuncData) : Prop where
  F : FunD K "__init__" qual (defArgs st) (defBody st) (defScope st) [] [(nm, dv)] f fd
  mkr : L2.Mk K C f
  k0 : ∃ g gV, KBn K fd ps 2 [] g gV ∧ ∀ a b, gV [a, b] [] = [a, b, dv]
  k1 : ∃ g gV, KBn K fd ps 2 [nm] g gV ∧ ∀ a b z, gV [a, b] [z] = [a, b, z]
structure IDefD (K : PySem.W.Frag) (C : Addr) (qual : Str) (st : Stmt) (ps : List Str) (f : Addr) (fd : FuncData) : Prop where
  F : FunD K "__init__" qual (defArgs st) (defBody st) (defScope st) [.non] [] f fd
  mkr : L2.Mk K C f
  b : Binds K fd ps []
structure IDefS (K : PySem.W.Frag) (C : Addr) (qual : Str) (st : Stmt) (f : Addr) (fd : FuncData) : Prop where
  F : Fun K "__init__" qual st f fd
  mkr : L2.Mk K C f
section
variable {K : PySem.W.Frag} {H : Hp} {Q : VK} {a C D dx : Addr} {fs : List (Str × V)} {b : Bool} {σ : L2.St} {t tk : TA} {E : XK} {sp : Sp} {n m : Nat} {gV : List V → List V → List V} {vs zs ws : List V}
theorem rd_isiO (c : CIs K C) (h : H a = some (.ins C dx fs)) (e : PySem.W.kitOne K (.ref C) (.ref D) = some b) (q : Q (.bl b) H) : rIsi K [.ref a, .ref D] H Q :=
  ⟨_, _, _, _, b, rfl, .own D, .base (.ins h c.cl c.ha c.hn c.htk c.hm), e, q⟩
def NwK (C : Addr) (n m : Nat) (sp : Sp) (gV : List V → List V → List V) (E : XK) (Q : VK) (vs zs : List V) (H2 : Hp) : Prop := vs.length = n ∧ zs.length = m ∧ ∀ x dx, H2 x = none → H2 dx = none → dx ≠ x →
  sp (gV (.ref x :: vs) zs) (upd (upd H2 dx (.own x)) x (.ins C dx [])) (fun v H3 => v = .non ∧ Q (.ref x) H3) E
theorem rd_makeK (q : t σ H fun vs H1 => tk σ H1 fun zs H2 => NwK C n m sp gV E Q vs zs H2) : tMakeK C n m sp gV E t tk σ H Q := q
theorem rd_NwK (l1 : vs.length = n) (l2 : zs.length = m) (e : ∀ x, gV (.ref x :: vs) zs = .ref x :: ws) (q : ∀ H1 x dx, Same H H1 → H x = none → H1 x = some (.ins C dx []) → sp (.ref x :: ws) H1 (fun v H2 => v = .non ∧ Q (.ref x) H2) E) : NwK C n m sp gV E Q vs zs H :=
  ⟨l1, l2, fun x dx nx nd ne => by
    rw [e]
    exact q _ x dx (same_new (same_new (Same.refl _) nd) (by rw [upd_ne ne.symm]; exact nx)) nx upd_same⟩
def NwS (C : Addr) (sp : Sp) (E : XK) (Q : VK) (vs : List V) (H1 : Hp) : Prop := ∀ x dx, H1 x = none → H1 dx = none → dx ≠ x → sp (V.ref x :: vs) (upd (upd H1 dx (.own x)) x (.ins C dx [])) (fun v H2 => v = .non ∧ Q (.ref x) H2) E
theorem rd_makeR (q : t σ H fun vs H1 => NwS C sp E Q vs H1) : StX.tMakeR C sp E t σ H Q := q
theorem rd_NwS (q : ∀ H1 x dx, Same H H1 → H x = none → H1 x = some (.ins C dx []) → sp (.ref x :: vs) H1 (fun v H2 => v = .non ∧ Q (.ref x) H2) E) : NwS C sp E Q vs H := fun x dx nx nd ne =>
  q _ x dx (same_new (same_new (Same.refl _) nd) (by rw [upd_ne ne.symm]; exact nx)) nx upd_same
end
/-- t[lo:hi], also all of it -/
theorem rd_slA {K : PySem.W.Frag} {H : Hp} {Q : VK} {a : Addr} {xs : List V} {lo hi : Option Int} (h : H a = some (.tup xs)) (q : ∀ H2 l, Same H H2 → H2 l = some (.tup (cutV xs lo hi)) → Q (.ref l) H2) : rSlA K (.ref a) lo hi H Q := by
  refine ⟨a, xs, rfl, SqT.of h, fun hw => ?_, fun _ l nl => q _ l (same_new (Same.refl _) nl) upd_same⟩
  have e : cutV xs lo hi = xs := by
    show List.take (HT.sIx xs.length xs.length hi - HT.sIx xs.length 0 lo) (List.drop (HT.sIx xs.length 0 lo) xs) = xs
    rw [hw.1, hw.2, List.drop_zero, Nat.sub_zero, List.take_length]
  exact q H a (Same.refl _) (by rw [e]; exact h)
def rNotNQ : R2 := fun x y H Q => y = .non ∧ Q (.bl (!decide (x = .non))) H
theorem op_notNQ {X : Cx} : OpR X (compareOp .IsNot) rNotNQ := op_notN
theorem rd_notNQ {H : Hp} {Q : VK} {v : V} (q : Q (.bl (!decide (v = .non))) H) : rNotNQ v .non H Q := ⟨rfl, q⟩
theorem rd_TrT {K : PySem.W.Frag} {H : Hp} {QB : Bool → Hp → Prop} {p : Addr} {xs : List V} (h : H p = some (.tup xs)) (q : QB (!xs.isEmpty) H) : TrL K QB (.ref p) H := ⟨_, .inr (.inl ⟨xs, SqT.of h, rfl⟩), q⟩
def StR (K : PySem.W.Frag) (t : TA) (σ : L2.St) (Q : List V → Hp → Prop) : VK := fun x H1 => ∃ p xs, x = V.ref p ∧ (SqT K H1 p xs ∨ SqL K H1 p xs) ∧ t σ H1 fun ys H2 => Q (xs ++ ys) H2
theorem rd_star {K : PySem.W.Frag} {te : TE} {t : TA} {σ : L2.St} {H : Hp} {Q : List V → Hp → Prop} (q : te σ H fun x H1 => StR K t σ Q x H1) : StX.tStar K te t σ H Q := q
theorem rd_StT {K : PySem.W.Frag} {t : TA} {σ : L2.St} {H : Hp} {Q : List V → Hp → Prop} {p : Addr} {xs : List V} (h : H p = some (.tup xs)) (q : t σ H fun ys H2 => Q (xs ++ ys) H2) : StR K t σ Q (.ref p) H := ⟨p, xs, rfl, .inl (SqT.of h), q⟩
/-- [x for a in t for x in (a,)] -/
theorem lc2_one {K : PySem.W.Frag} {tl : Addr} {as : List Addr} {g g1 : TG} {wi1 : TI} {te : TE} {vs vs1 : List Nat} {σ : L2.St} {H0 : Hp} {Q : VK} (s2 : Addr → L2.St) (s3 : Addr → V → L2.St)
    (hl : H0 tl = some (.tup (as.map V.ref))) (sm : as.length < 1000)
    (w2 : ∀ b, wipe (s2 b) vs = wipe σ vs) (w3 : ∀ b v, wipe (s3 b v) vs1 = wipe (s2 b) vs1)
    (hg : ∀ b H (R : L2.St → Hp → Prop), R (s2 b) H → g (.ref b) (wipe σ vs) H R)
    (hw : ∀ (i : Nat) b H (R : It → Hp → Prop), as[i]? = some b → Same H0 H → (∀ H2 t, Same H H2 → H2 t = some (.tup [.ref b]) → R (Itt K t) H2) → wi1 (s2 b) H R)
    (hg1 : ∀ b v H (R : L2.St → Hp → Prop), R (s3 b v) H → g1 v (wipe (s2 b) vs1) H R)
    (ht : ∀ b (c : V) H (R : VK), R c H → te (s3 b c) H R)
    (q : ∀ H2 D, Same H0 H2 → H0 D = none → H2 D = some (.lst (as.map V.ref)) → Q (.ref D) H2) : Lc2 (Itt K tl) g tYes wi1 g1 tYes te vs vs1 σ H0 Q := by
  intro D nD
  refine ⟨fun i m H => Same H0 H ∧ H D = some (.lst ((as.take i).map V.ref)) ∧ m + i = as.length, ⟨as.length, same_new (Same.refl _) nD, by rw [upd_same]; rfl, rfl⟩, ?_⟩
  rintro i m H ⟨S, hD, hm⟩
  by_cases hi : i < as.length
  · refine .inr ⟨(walk_tup (K := K) (a := tl) (xs := as.map V.ref)).goes i H (by rw [List.length_map]; omega) (SqT.of (S _ _ hl)), fun H' => Same H0 H' ∧ H' D = some (.lst ((as.take (i + 1)).map V.ref)), fun H' z => ⟨m - 1, by omega, z.1, z.2, by omega⟩, fun x H' y => ?_⟩
    obtain ⟨rfl, ex⟩ := (walk_tup (K := K) (a := tl) (xs := as.map V.ref)).yields i H x H' (by rw [List.length_map]; omega) (SqT.of (S _ _ hl)) y
    have er : as[i]? = some as[i] := List.getElem?_eq_getElem hi
    rw [List.getElem?_map, er] at ex
    cases ex
    refine hg as[i] _ _ ⟨w2 _, ?_⟩
    unfold tYes
    dsimp only
    rw [if_pos rfl]
    refine hw i as[i] H' _ er S fun H2 t S2 ht2 => ?_
    refine ⟨fun j k G => Same H0 G ∧ G t = some (.tup [.ref as[i]]) ∧ G D = some (.lst ((as.take (i + j)).map V.ref)) ∧ j ≤ 1 ∧ k + j = 1, ⟨1, S.trans S2, ht2, S2 _ _ hD, by decide, rfl⟩, ?_⟩
    rintro j k G ⟨SG, hG, hDG, hj1, hk⟩
    by_cases hj : j < 1
    · obtain rfl : j = 0 := by omega
      refine .inr ⟨(walk_tup (K := K) (a := t) (xs := [V.ref as[i]])).goes 0 G Nat.zero_lt_one (SqT.of hG), fun H5 => Same H0 H5 ∧ H5 t = some (.tup [.ref as[i]]) ∧ H5 D = some (.lst ((as.take (i + 1)).map V.ref)), fun H5 z => ⟨k - 1, by omega, z.1, z.2.1, z.2.2, by omega, by omega⟩, fun x H5 y5 => ?_⟩
      obtain ⟨rfl, ex5⟩ := (walk_tup (K := K) (a := t) (xs := [V.ref as[i]])).yields 0 G x H5 Nat.zero_lt_one (SqT.of hG) y5
      cases ex5
      refine hg1 as[i] _ _ _ ⟨w3 _ _, ?_⟩
      try unfold tYes
      try dsimp only
      rw [if_pos rfl]
      refine ht _ _ _ _ ⟨_, hDG, by rw [List.length_map, List.length_take, sizeLine_eq]; omega, same_mut SG nD, ?_, ?_⟩
      · rw [upd_ne (ne_of hG hDG (by intro z; cases z))]
        exact hG
      · rw [upd_same, List.take_succ, er, List.map_append]
        rfl
    · obtain rfl : j = 1 := by omega
      exact .inl ⟨(walk_tup (K := K) (a := t) (xs := [V.ref as[i]])).stops G (SqT.of hG), SG, hDG⟩
  · refine .inl ⟨?_, ?_⟩
    · have := (walk_tup (K := K) (a := tl) (xs := as.map V.ref)).stops H (SqT.of (S _ _ hl))
      rw [List.length_map] at this
      rw [show i = as.length by omega]
      exact this
    · refine q H D S nD ?_
      rw [hD, List.take_of_length_le (by omega)]
/-- an expression that is not reached -/
def tNev : TE := fun _ _ _ => False
theorem pe_nev {X : Cx} {e : Expr} : PE X e tNev := ⟨fun _ _ _ _ _ _ h => h.elim⟩
theorem units65 {k : Nat} {A : Around} (r : Room k A) : A.units + 65 < cLine := by have := r.un; omega
/-- x is not y, bools -/
def rIsnB : R2 := fun x y H Q => ∃ a b : Bool, x = .bl a ∧ y = .bl b ∧ Q (.bl (!decide (a = b))) H
theorem op_isnB {X : Cx} : OpR X (compareOp .IsNot) rIsnB := op_isnot_bl
theorem rd_isnB {H : Hp} {Q : VK} {a b : Bool} (q : Q (.bl (!decide (a = b))) H) : rIsnB (.bl a) (.bl b) H Q := ⟨a, b, rfl, rfl, q⟩
end Rv
/-! the mathematics of k11: first executions of the simple rules, Either, Lagging and Workers -/
namespace RK
open RM RU
inductive Kd where
  | r (x : Rl)
  | w (c : Nat)
def stepsK : Kd → List Nat → Nat → List Stp
  | .r x, st, len => stepsR x st len
  | .w _, st, len => wsteps st len
def firstK : Kd → List Nat
  | .r x => firstR x
  | .w c => List.replicate c 0
def sizeK : Kd → Nat
  | .r (.lag _) => 2
  | .r _ => 1
  | .w c => c
def KOk : Kd → Prop
  | .r x => ROk x
  | .w c => 1 ≤ c ∧ c ≤ 3
def VK : Kd → Nat → List Nat → Prop
  | .r x, len, st => VR x len st
  | .w c, len, st => st.length = c ∧ ∀ x ∈ st, x ≤ len
/-- the positions of a state -/
def posK : Kd → List Nat → List Nat
  | .r _, st => [st.getD 0 0]
  | .w _, st => st
def endK : Kd → List Nat → Nat → Bool
  | .r _, st, len => decide (st.getD 0 0 = len)
  | .w _, st, len => decide (len ∈ st)
theorem endK_iff (k : Kd) (st : List Nat) (len : Nat) : endK k st len = true ↔ len ∈ posK k st := by
  cases k with
  | r x => exact ⟨fun h => List.mem_singleton.mpr (of_decide_eq_true h).symm, fun h => decide_eq_true (List.mem_singleton.mp h).symm⟩
  | w c => exact ⟨fun h => of_decide_eq_true h, fun h => decide_eq_true h⟩
theorem sizeK_pos {k : Kd} (ok : KOk k) : 1 ≤ sizeK k := by
  cases k with
  | r x => cases x with
    | lag n => exact Nat.le_succ 1
    | leaf l => exact Nat.le_refl 1
    | eit l => exact Nat.le_refl 1
  | w c => exact ok.1
theorem VK.size {k : Kd} {len : Nat} {st : List Nat} (v : VK k len st) : st.length = sizeK k := by
  cases k with
  | r x => cases x with
    | lag n => obtain ⟨p, h, rfl, _⟩ := v; rfl
    | leaf l => obtain ⟨p, rfl, _⟩ := v; rfl
    | eit l => obtain ⟨p, rfl, _⟩ := v; rfl
  | w c => exact v.1
theorem first_okK (k : Kd) (len : Nat) : VK k len (firstK k) := by
  cases k with
  | r x => exact first_okR x len
  | w c => exact ⟨List.length_replicate, fun x hx => by rw [(List.mem_replicate.mp hx).2]; exact Nat.zero_le _⟩
theorem first_rep (k : Kd) : firstK k = List.replicate (sizeK k) 0 := by
  cases k with
  | r x => cases x <;> rfl
  | w c => rfl
theorem first_pos (k : Kd) : ∀ x ∈ posK k (firstK k), x ≤ 0 := by
  cases k with
  | r x => intro y hy; cases x <;> exact Nat.le_of_eq (List.mem_singleton.mp hy)
  | w c => intro y hy; exact Nat.le_of_eq (List.mem_replicate.mp hy).2
theorem step_okK {k : Kd} (ok : KOk k) {len : Nat} (l60 : len ≤ 60) {st : List Nat} (v : VK k len st) {s : Stp} (hs : s ∈ stepsK k st len) : VK k len s.2 := by
  cases k with
  | r x => exact step_okR ok l60 v hs
  | w c => exact step_ok (sp := .wrk c) ok l60 v hs
/-- one more than the greatest executed line -/
def nx (m : Nat) (s : Stp) : Nat := max m (s.1 + 1).toNat
theorem fur_ln (l : Lf) (p : Nat) : ∀ s ∈ fur l p, -1 ≤ s.1 ∧ s.1 < (p : Int) := fun s hs => by
  have back : s.1 = -1 → -1 ≤ s.1 ∧ s.1 < (p : Int) := fun e => by rw [e]; omega
  cases l with
  | once => cases hs
  | top =>
    have h : s ∈ (if 0 < p then [((-1 : Int), [0])] else []) := hs
    split at h
    · rw [List.mem_singleton.mp h] at back ⊢; exact back rfl
    · cases h
  | mark => obtain ⟨j, hj, rfl⟩ := List.mem_map.mp hs; exact back rfl
  | pts nw ns => obtain ⟨j, hj, rfl⟩ := List.mem_map.mp hs; exact back rfl
  | late o =>
    rw [fur_late] at hs
    obtain ⟨j, hj, rfl⟩ := List.mem_map.mp hs
    have := List.mem_range.mp (List.mem_filter.mp hj).1
    exact ⟨by show (-1 : Int) ≤ (j : Int); omega, by show (j : Int) < (p : Int); omega⟩
theorem furR_ln {r : Rl} {p : Nat} : ∀ s ∈ furR r p, -1 ≤ s.1 ∧ s.1 < (p : Int) := fun s hs => by
  cases r with
  | leaf l => exact fur_ln l p s hs
  | lag n => cases hs
  | eit ls =>
    rcases accE_mem (acc := []) hs with k | ⟨l, _, k⟩
    · cases k
    · exact fur_ln l p s k
theorem line_ok {k : Kd} {len : Nat} {st : List Nat} (v : VK k len st) {m : Nat} (hm : ∀ x ∈ posK k st, x ≤ m) {s : Stp} (hs : s ∈ stepsK k st len) :
    -1 ≤ s.1 ∧ s.1 < (len : Int) ∧ s.1 ≤ (m : Int) ∧ ∀ x ∈ posK k s.2, x ≤ nx m s := by
  have simple : ∀ (r : Rl) (p : Nat), p ≤ len → p ≤ m → s ∈ ahd p len ++ furR r p → -1 ≤ s.1 ∧ s.1 < (len : Int) ∧ s.1 ≤ (m : Int) ∧ ∀ x ∈ [s.2.getD 0 0], x ≤ nx m s := fun r p hp hpm h => by
    rcases List.mem_append.mp h with z | z
    · unfold ahd at z
      split at z
      · rw [List.mem_singleton.mp z]
        refine ⟨by show (-1 : Int) ≤ (p : Int); omega, by show (p : Int) < _; omega, by show (p : Int) ≤ _; omega, fun x hx => ?_⟩
        rw [List.mem_singleton.mp hx]
        show p + 1 ≤ max m ((p : Int) + 1).toNat
        omega
      · cases z
    · obtain ⟨j, e, hj⟩ := furR_st s z
      obtain ⟨h1, h2⟩ := furR_ln s z
      refine ⟨h1, by omega, by omega, fun x hx => ?_⟩
      rw [List.mem_singleton.mp hx, e]
      show j ≤ max m (s.1 + 1).toNat
      omega
  cases k with
  | r x =>
    have hp : st.getD 0 0 ≤ m := hm _ (List.mem_singleton.mpr rfl)
    cases x with
    | leaf l => obtain ⟨p, rfl, h⟩ := v; exact simple _ p h hp hs
    | eit l => obtain ⟨p, rfl, h⟩ := v; exact simple _ p h hp hs
    | lag a =>
      obtain ⟨p, h, rfl, hl, hh⟩ := v
      have hp2 : p ≤ m := hp
      have hs2 : s ∈ lsteps a p h len := hs
      unfold lsteps at hs2
      rcases List.mem_append.mp hs2 with z | z
      · split at z
        · rw [List.mem_singleton.mp z]
          refine ⟨by show (-1 : Int) ≤ (p : Int); omega, by show (p : Int) < _; omega, by show (p : Int) ≤ _; omega, fun x hx => ?_⟩
          rw [List.mem_singleton.mp hx]
          show p + 1 ≤ max m ((p : Int) + 1).toNat
          omega
        · cases z
      · obtain ⟨i, hi, rfl⟩ := List.mem_map.mp z
        have := List.mem_range.mp hi
        refine ⟨Int.le_refl _, by show (-1 : Int) < _; omega, by show (-1 : Int) ≤ _; omega, fun x hx => ?_⟩
        rw [List.mem_singleton.mp hx]
        show h - a + i ≤ max m _
        omega
  | w c =>
    rcases List.mem_append.mp hs with z | z
    · obtain ⟨p, hp, rfl⟩ := List.mem_map.mp z
      have hl := List.mem_range.mp (List.mem_filter.mp hp).1
      have hin : p ≤ m := hm p (of_decide_eq_true (List.mem_filter.mp hp).2)
      refine ⟨by show (-1 : Int) ≤ (p : Int); omega, by show (p : Int) < _; omega, by show (p : Int) ≤ _; omega, ?_⟩
      refine mvd_le (fun x hx => ?_) ?_
      · have := hm x hx
        show x ≤ max m ((p : Int) + 1).toNat
        omega
      · show p + 1 ≤ max m ((p : Int) + 1).toNat
        omega
    · obtain ⟨p, hp, rfl⟩ := List.mem_map.mp z
      refine ⟨Int.le_refl _, by show (-1 : Int) < _; omega, by show (-1 : Int) ≤ _; omega, ?_⟩
      refine mvd_le (fun x hx => ?_) (Nat.zero_le _)
      have := hm x hx
      show x ≤ max m _
      omega
theorem sum_ins (x : Nat) : ∀ l : List Nat, (ins x l).sum = x + l.sum
  | [] => rfl
  | y :: r => by
    show (if x ≤ y then x :: y :: r else y :: ins x r).sum = _
    split
    · rfl
    · rw [List.sum_cons, sum_ins x r, List.sum_cons]; omega
theorem sum_srt : ∀ l : List Nat, (srt l).sum = l.sum
  | [] => rfl
  | x :: r => by
    show (ins x (srt r)).sum = _
    rw [sum_ins, sum_srt r, List.sum_cons]
theorem sum_set : ∀ {l : List Nat} {p : Nat}, p ∈ l → (l.set (l.idxOf p) (p + 1)).sum = l.sum + 1
  | [], _, h => nomatch h
  | x :: r, p, h => by
    by_cases e : x = p
    · subst e
      rw [List.idxOf_cons_self]
      show x + 1 + r.sum = x + r.sum + 1
      omega
    · rw [show (x :: r).idxOf p = r.idxOf p + 1 from by rw [List.idxOf_cons, show (x == p) = false from beq_eq_false_iff_ne.mpr e]; rfl]
      have := sum_set (l := r) (p := p) ((List.mem_cons.mp h).resolve_left fun z => e z.symm)
      show x + (r.set (r.idxOf p) (p + 1)).sum = x + r.sum + 1
      omega
theorem sum_lt : ∀ {l : List Nat} {n : Nat}, (∀ x ∈ l, x < n) → l.sum + l.length ≤ n * l.length
  | [], _, _ => Nat.le_refl _
  | x :: r, n, h => by
    have h1 := sum_lt (l := r) fun y hy => h y (List.mem_cons_of_mem _ hy)
    have h2 := h x (List.mem_cons_self ..)
    rw [List.sum_cons, List.length_cons, Nat.mul_succ]
    omega
/-- not at an end: the first step raises the sum by one, and the sum is small -/
theorem go_on {k : Kd} (ok : KOk k) {len : Nat} {st : List Nat} (v : VK k len st) (ne : endK k st len = false) :
    (∃ s r, stepsK k st len = s :: r ∧ (posK k s.2).sum = (posK k st).sum + 1) ∧ (posK k st).sum < len * sizeK k := by
  cases k with
  | r x =>
    have h1 : st.getD 0 0 ≤ len := VR.pos v
    have h2 : st.getD 0 0 ≠ len := of_decide_eq_false ne
    refine ⟨⟨onw st, rest x st, ?_, ?_⟩, ?_⟩
    · show stepsR x st len = _
      rw [steps_split v, if_pos (by omega)]; rfl
    · show [(onw st).2.getD 0 0].sum = [st.getD 0 0].sum + 1
      cases x with
      | lag n => obtain ⟨p, h, rfl, _⟩ := v; rfl
      | leaf l => obtain ⟨p, rfl, _⟩ := v; rfl
      | eit l => obtain ⟨p, rfl, _⟩ := v; rfl
    · have h3 := Nat.mul_le_mul_left len (sizeK_pos ok)
      show st.getD 0 0 + 0 < _
      omega
  | w c =>
    obtain ⟨hl, hle⟩ := v
    have hn : len ∉ st := of_decide_eq_false ne
    have hlt : ∀ x ∈ st, x < len := fun x hx => Nat.lt_of_le_of_ne (hle x hx) fun e => hn (e ▸ hx)
    have c1 : 1 ≤ c := ok.1
    refine ⟨?_, ?_⟩
    · cases hf : (List.range len).filter (fun p => decide (p ∈ st)) with
      | nil =>
        exfalso
        cases st with
        | nil => rw [List.length_nil] at hl; omega
        | cons x r =>
          have : x ∈ (List.range len).filter (fun p => decide (p ∈ x :: r)) := List.mem_filter.mpr ⟨List.mem_range.mpr (hlt x (List.mem_cons_self ..)), decide_eq_true (List.mem_cons_self ..)⟩
          rw [hf] at this
          cases this
      | cons p r =>
        have hp : p ∈ (List.range len).filter (fun p => decide (p ∈ st)) := by rw [hf]; exact List.mem_cons_self ..
        have hp2 : p ∈ st := of_decide_eq_true (List.mem_filter.mp hp).2
        refine ⟨((p : Int), mvd st p (p + 1)), (r.map fun p : Nat => ((p : Int), mvd st p (p + 1))) ++ wbk st len, ?_, ?_⟩
        · show wfw st len ++ wbk st len = _
          unfold wfw
          rw [hf]; rfl
        · show (mvd st p (p + 1)).sum = st.sum + 1
          unfold mvd
          rw [sum_srt, sum_set hp2]
    · have h := sum_lt hlt
      rw [hl] at h
      show st.sum < len * c
      omega
theorem sum_leL : ∀ {l : List Nat} {n : Nat}, (∀ x ∈ l, x ≤ n) → l.sum ≤ n * l.length
  | [], _, _ => Nat.zero_le _
  | x :: r, n, h => by
    have h1 := sum_leL (l := r) fun y hy => h y (List.mem_cons_of_mem _ hy)
    have h2 := h x (List.mem_cons_self ..)
    rw [List.sum_cons, List.length_cons, Nat.mul_succ]
    omega
theorem sum_le {k : Kd} (ok : KOk k) {len : Nat} {st : List Nat} (v : VK k len st) : (posK k st).sum ≤ len * sizeK k := by
  cases k with
  | r x =>
    have h1 : st.getD 0 0 ≤ len := VR.pos v
    have h3 := Nat.mul_le_mul_left len (sizeK_pos ok)
    show st.getD 0 0 + 0 ≤ _
    omega
  | w c =>
    have h := sum_leL v.2
    rw [v.1] at h
    exact h
/-- at an end every line has been executed -/
theorem end_many {k : Kd} {len : Nat} {st : List Nat} {m : Nat} (hm : ∀ x ∈ posK k st, x ≤ m) (ml : m ≤ len) (e : endK k st len = true) : m = len :=
  Nat.le_antisymm ml (hm len ((endK_iff k st len).mp e))
/-- a run, with one more than its greatest executed line -/
def CK (k : Kd) (len : Nat) : List Nat → Nat → List Stp → List Nat → Nat → Prop
  | st, m, [], e, f => st = e ∧ m = f
  | st, m, s :: ss, e, f => s ∈ stepsK k st len ∧ CK k len s.2 (nx m s) ss e f
theorem CK.snoc {k : Kd} {len : Nat} : ∀ {ss : List Stp} {st e : List Nat} {m f : Nat} {s : Stp}, CK k len st m ss e f → s ∈ stepsK k e len → CK k len st m (ss ++ [s]) s.2 (nx f s)
  | [], st, e, m, f, s, h, z => by obtain ⟨rfl, rfl⟩ := h; exact ⟨z, rfl, rfl⟩
  | x :: ss, st, e, m, f, s, h, z => ⟨h.1, CK.snoc h.2 z⟩
theorem CK.take {k : Kd} {len : Nat} : ∀ {ss : List Stp} {st e : List Nat} {m f : Nat} (c : Nat), CK k len st m ss e f → ∃ e2 f2, CK k len st m (ss.take c) e2 f2
  | ss, st, e, m, f, 0, h => ⟨st, m, by rw [List.take_zero]; exact ⟨rfl, rfl⟩⟩
  | [], st, e, m, f, c + 1, h => ⟨st, m, rfl, rfl⟩
  | x :: ss, st, e, m, f, c + 1, h => by
    obtain ⟨e2, f2, z⟩ := CK.take c h.2
    exact ⟨e2, f2, h.1, z⟩
theorem CK.last {k : Kd} {len : Nat} : ∀ {ss : List Stp} {st e : List Nat} {m f : Nat}, CK k len st m ss e f → ∀ h : ss ≠ [], (ss.getLast h).2 = e
  | [], _, _, _, _, _, h => (h rfl).elim
  | [x], st, e, m, f, h, _ => h.2.1
  | x :: y :: ss, st, e, m, f, h, _ => by
    rw [List.getLast_cons (by simp)]
    exact CK.last h.2 (by simp)
/-- the lines of a run that are no restarts -/
def lnz (ss : List Stp) : List Int := (ss.filter fun s => decide (0 ≤ s.1)).map fun s => s.1
/-- the law's way to one more than the greatest line; none: a line was left out -/
def mnF : Nat → List Int → Option Nat
  | m, [] => some m
  | m, a :: r => if (m : Int) < a then none else mnF (max m (a + 1).toNat) r
theorem CK.good {k : Kd} (ok : KOk k) {len : Nat} (l60 : len ≤ 60) : ∀ {ss : List Stp} {st e : List Nat} {m f : Nat}, VK k len st → (∀ x ∈ posK k st, x ≤ m) → m ≤ len → CK k len st m ss e f →
    VK k len e ∧ (∀ x ∈ posK k e, x ≤ f) ∧ f ≤ len ∧ mnF m (lnz ss) = some f ∧ (∀ s ∈ ss, -1 ≤ s.1 ∧ s.1 < (len : Int)) ∧ m ≤ f
  | [], st, e, m, f, v, hm, ml, h => by obtain ⟨rfl, rfl⟩ := h; exact ⟨v, hm, ml, rfl, ⟨fun s hs => (List.not_mem_nil hs).elim, Nat.le_refl _⟩⟩
  | s :: ss, st, e, m, f, v, hm, ml, h => by
    obtain ⟨l1, l2, l3, l4⟩ := line_ok v hm h.1
    have hx : nx m s ≤ len := by unfold nx; omega
    obtain ⟨g1, g2, g3, g4, g5, g6⟩ := CK.good ok l60 (step_okK ok l60 v h.1) l4 hx h.2
    refine ⟨g1, g2, g3, ?_, ?_, ?_⟩
    · unfold lnz at g4 ⊢
      rw [List.filter_cons]
      by_cases z : 0 ≤ s.1
      · rw [if_pos (decide_eq_true z), List.map_cons]
        show (if (m : Int) < s.1 then none else mnF (nx m s) _) = _
        rw [if_neg (by omega)]
        exact g4
      · rw [if_neg (by rw [decide_eq_true_eq]; exact z)]
        have e0 : nx m s = m := by unfold nx; omega
        rw [e0] at g4
        exact g4
    · intro y hy
      rcases List.mem_cons.mp hy with e0 | hy
      · rw [e0]; exact ⟨l1, l2⟩
      · exact g5 y hy
    · have : m ≤ nx m s := Nat.le_max_left ..
      exact Nat.le_trans this g6
theorem steps_lenK {k : Kd} (ok : KOk k) {len : Nat} (l60 : len ≤ 60) {st : List Nat} (v : VK k len st) : (stepsK k st len).length ≤ 421 := by
  cases k with
  | r x => exact steps_lenR ok l60 v
  | w c => exact Nat.le_trans (steps_len (sp := .wrk c) ok l60 v) (by decide)
theorem first_stop (k : Kd) (len : Nat) : endK k (firstK k) len = true → len = 0 := fun h =>
  Nat.le_zero.mp (first_pos k len ((endK_iff k _ len).mp h))
/-- what the law's loop over the steps keeps: after drawn steps the sum has gone up by one at each -/
def Up (k : Kd) (drawn i : Nat) (st : List Nat) : Prop := i ≤ drawn + (posK k st).sum
theorem Up.next {k : Kd} {drawn i : Nat} {st : List Nat} {s : Stp} (h : Up k drawn i st) (z : i < drawn ∨ (posK k s.2).sum = (posK k st).sum + 1) : Up k drawn (i + 1) s.2 := by
  unfold Up at h ⊢
  rcases z with z | z
  · omega
  · rw [z]; omega
end RK
/-! for k11: states, steps and rules of either kind in the heap -/
namespace Rv
open PySem PySem.Spec PyProof.Rows L2 RM RU RK
theorem Ki.ko {H H' : Hp} (k : Ki H H') : Ko H H' := fun a o t h => k a o (fun xs e => by subst e; exact t) h
/-- a state: Workers' is a tuple whose object is known -/
def TAt (k : Kd) (H : Hp) (q : Addr) (st : List Nat) : Prop := match k with
  | .r _ => H q = some (.tup (nvs st))
  | .w _ => GT H q (niz st)
def EAt (k : Kd) (H : Hp) (p : Addr) (s : Stp) : Prop := ∃ q, H p = some (.tup [.int s.1, .ref q]) ∧ TAt k H q s.2
def EsAt (k : Kd) (H : Hp) (ps : List Addr) (ss : List Stp) : Prop := ps.length = ss.length ∧ ∀ (i : Nat) (s : Stp), ss[i]? = some s → ∃ p, ps[i]? = some p ∧ EAt k H p s
def KRt (K : PySem.W.Frag) (H : Hp) (a : Addr) : Kd → Prop
  | .r x => RAt K H a x
  | .w c => ∃ dx, H a = some (.ins (atTop K "Workers") dx [("count", .int (c : Int))])
section
variable {K : PySem.W.Frag} {k : Kd} {H H' : Hp} {p q a : Addr} {s : Stp} {st : List Nat} {ps qs : List Addr} {ss ts : List Stp}
theorem nvs_niz (st : List Nat) : (niz st).map V.int = nvs st := by
  induction st with
  | nil => rfl
  | cons x r ih => show V.int (x : Int) :: (niz r).map V.int = V.int (x : Int) :: nvs r; rw [ih]
theorem TAt.sq (h : TAt k H q st) : SqT K H q (nvs st) := by
  cases k with
  | r x => exact SqT.of h
  | w c => have := GT.sq (K := K) h; rw [nvs_niz] at this; exact this
theorem TAt.ko (h : TAt k H q st) (z : Ko H H') : TAt k H' q st := by
  cases k with
  | r x => exact z.kt _ _ h
  | w c => exact GT.ko h z
theorem TAt.same (h : TAt k H q st) (S : Same H H') : TAt k H' q st := h.ko (Ko.same S)
theorem TAt.dp (h : TAt k H q st) : Dp K H (.ref q) (.tuple ((niz st).map PyData.int)) := .tup (h.sq) (dp_ints (niz st))
theorem EAt.ko (h : EAt k H p s) (z : Ko H H') : EAt k H' p s := by obtain ⟨q, x, y⟩ := h; exact ⟨q, z.kt _ _ x, y.ko z⟩
theorem EsAt.ko (h : EsAt k H ps ss) (z : Ko H H') : EsAt k H' ps ss := ⟨h.1, fun i s e => by obtain ⟨p, x, y⟩ := h.2 i s e; exact ⟨p, x, y.ko z⟩⟩
theorem EAt.same (h : EAt k H p s) (S : Same H H') : EAt k H' p s := h.ko (Ko.same S)
theorem EsAt.same (h : EsAt k H ps ss) (S : Same H H') : EsAt k H' ps ss := h.ko (Ko.same S)
theorem EsAt.nil : EsAt k H [] [] := ⟨rfl, fun i s e => by simp at e⟩
theorem EsAt.app (h : EsAt k H ps ss) (z : EsAt k H qs ts) : EsAt k H (ps ++ qs) (ss ++ ts) := ⟨by rw [List.length_append, List.length_append, h.1, z.1], fun i s e => by
  by_cases y : i < ss.length
  · rw [List.getElem?_append_left y] at e
    obtain ⟨p, e1, e2⟩ := h.2 i s e
    exact ⟨p, by rw [List.getElem?_append_left (by rw [h.1]; exact y)]; exact e1, e2⟩
  · rw [List.getElem?_append_right (by omega)] at e
    obtain ⟨p, e1, e2⟩ := z.2 _ s e
    exact ⟨p, by rw [List.getElem?_append_right (by rw [h.1]; omega), h.1]; exact e1, e2⟩⟩
theorem EsAt.one (h : EAt k H p s) : EsAt k H [p] [s] := ⟨rfl, fun i t e => by
  cases i with
  | zero => cases e; exact ⟨p, rfl, h⟩
  | succ i => simp at e⟩
theorem EsAt.snoc (h : EsAt k H ps ss) (z : EAt k H p s) : EsAt k H (ps ++ [p]) (ss ++ [s]) := h.app (.one z)
theorem EsAt.at (h : EsAt k H ps ss) {i : Nat} (hi : i < ss.length) : ∃ p, ps[i]? = some p ∧ EAt k H p ss[i] := h.2 i _ (List.getElem?_eq_getElem hi)
theorem EsAt.tail {t : Stp} (h : EsAt k H (p :: ps) (t :: ss)) : EAt k H p t ∧ EsAt k H ps ss := ⟨by
  obtain ⟨q, e1, e2⟩ := h.2 0 t rfl
  cases e1
  exact e2, ⟨by have := h.1; rw [List.length_cons, List.length_cons] at this; omega, fun i s e => h.2 (i + 1) s e⟩⟩
theorem EsAt.take (h : EsAt k H ps ss) (n : Nat) : EsAt k H (ps.take n) (ss.take n) := ⟨by rw [List.length_take, List.length_take, h.1], fun i s e => by
  rw [List.getElem?_take] at e ⊢
  split at e
  · rename_i z
    rw [if_pos z]
    exact h.2 i s e
  · cases e⟩
theorem EAt.dp (h : EAt k H p s) : Dp K H (.ref p) (dStp s) := by
  obtain ⟨q, x, y⟩ := h
  exact .tup (SqT.of x) (.cons (.int _) (.cons y.dp .nil))
theorem EsAt.w {c : Nat} (h : StpsAt H ps ss) : EsAt (.w c) H ps ss := h
theorem KRt.ki {r : Kd} (h : KRt K H a r) (z : Ki H H') : KRt K H' a r := by
  cases r with
  | r x => exact RAt.ki h z
  | w c => obtain ⟨dx, h⟩ := h; exact ⟨dx, z _ _ (fun xs e => by cases e) h⟩
theorem KRt.same {r : Kd} (h : KRt K H a r) (S : Same H H') : KRt K H' a r := h.ki (Ki.same S)
end
end Rv
namespace Rv
open PySem PySem.Spec PyProof.Rows L2 RM RU RK
/-- a drawn spec -/
def KSpc (M : List Addr) (H : Hp) (a : Addr) : Kd → Prop
  | .r x => RSpc M H a x
  | .w c => H a = some (.tup [.str "workers", .int (c : Int)])
end Rv
namespace Rv
open PySem PySem.Spec PyProof.Rows L2 RM RU RK
theorem dps_ofE {K : PySem.W.Frag} {H : Hp} {r : Kd} : ∀ {ps : List Addr} {ss : List Stp}, EsAt r H ps ss → DpAll K H (ps.map V.ref) (ss.map dStp)
  | [], [], _ => .nil
  | p :: ps, s :: ss, h => .cons h.tail.1.dp (dps_ofE h.tail.2)
  | [], _ :: _, h => absurd h.1 (by simp)
  | _ :: _, [], h => absurd h.1 (by simp)
theorem rd_inEs {K : PySem.W.Frag} {H : Hp} {Q : VK} {r : Kd} {p l : Addr} {s : Stp} {ps : List Addr} {ss : List Stp} (h : EAt r H p s) (hl : H l = some (.lst (ps.map V.ref))) (t : EsAt r H ps ss) (m : s ∈ ss) (q : Q (.bl true) H) : rInD K (.ref p) (.ref l) H Q := by
  have sl : Sh 3 (.list (ss.map dStp)) := Sh.list fun d hd => by
    obtain ⟨x, _, rfl⟩ := List.mem_map.mp hd
    exact sh_dStp x
  refine ⟨dStp s, ss.map dStp, h.dp, .lst (SqL.of hl) (dps_ofE t), (sh_dStp s).shaped (by decide), sl.shaped (by decide), ?_⟩
  rw [show ((ss.map dStp).any fun z => PyData.eqv z (dStp s)) = true from List.any_eq_true.mpr ⟨dStp s, List.mem_map.mpr ⟨s, m, rfl⟩, SeqAt.eqv_refl _ (sh_dStp s).l⟩]
  exact q
end Rv
namespace Rv
open PySem PySem.Spec PyProof.Rows L2 RM RU RK
theorem KSpc.kp {M : List Addr} {H H' : Hp} {a : Addr} {r : Kd} (h : KSpc M H a r) (k : KpM M H H') : KSpc M H' a r := by
  cases r with
  | r x => exact RSpc.kp h k
  | w c => exact k.kt _ _ h
theorem KSpc.same {M : List Addr} {H H' : Hp} {a : Addr} {r : Kd} (h : KSpc M H a r) (S : Same H H') : KSpc M H' a r := h.kp (KpM.same S)
end Rv
namespace K11
open PySem PySem.Spec PyProof.Rows L2 Rv RM RU RK
def top (i : Nat) : Stmt := PySem.Challenge.pw_redolots_k11_whole_first_executions.main.body.getD i (.Pass ⟨0, 0, 0, 0⟩)
abbrev sis_between : Stmt := top 10
theorem scis_between : FnScope ["number", "least", "most"] ["number", "least", "most"] (defScope sis_between) := ⟨rfl, rfl, rfl, by decide +kernel, rfl, by decide +kernel, by decide +kernel⟩
abbrev sare_ascending : Stmt := top 11
theorem scare_ascending : FnScope ["numbers", "least", "most", "low", "high", "number"] ["numbers", "least", "most"] (defScope sare_ascending) := ⟨rfl, rfl, rfl, by decide +kernel, rfl, by decide +kernel, by decide +kernel⟩
abbrev sis_simple : Stmt := top 12
theorem scis_simple : FnScope ["rule"] ["rule"] (defScope sis_simple) := ⟨rfl, rfl, rfl, by decide +kernel, rfl, by decide +kernel, by decide +kernel⟩
abbrev s_ahead : Stmt := top 13
theorem sc_ahead : FnScope ["state", "length", "position"] ["state", "length"] (defScope s_ahead) := ⟨rfl, rfl, rfl, by decide +kernel, rfl, by decide +kernel, by decide +kernel⟩
abbrev s_parts : Stmt := top 15
theorem sc_parts : FnScope ["rule"] ["rule"] (defScope s_parts) := ⟨rfl, rfl, rfl, by decide +kernel, rfl, by decide +kernel, by decide +kernel⟩
abbrev s_moved : Stmt := top 19
theorem sc_moved : FnScope ["state", "position", "goal", "at"] ["state", "position", "goal"] (defScope s_moved) := ⟨rfl, rfl, rfl, by decide +kernel, rfl, by decide +kernel, by decide +kernel⟩
abbrev sis_run : Stmt := top 21
theorem scis_run : FnScope ["rule", "run", "length"] ["rule", "run", "length"] (defScope sis_run) := ⟨rfl, rfl, rfl, by decide +kernel, rfl, by decide +kernel, by decide +kernel⟩
abbrev sis_complete : Stmt := top 22
theorem scis_complete : FnScope ["rule", "run", "length", "state"] ["rule", "run", "length"] (defScope sis_complete) := ⟨rfl, rfl, rfl, by decide +kernel, rfl, by decide +kernel, by decide +kernel⟩
abbrev sexecuted : Stmt := top 23
theorem scexecuted : FnScope ["run", "step"] ["run"] (defScope sexecuted) := ⟨rfl, rfl, rfl, by decide +kernel, rfl, by decide +kernel, by decide +kernel⟩
abbrev s_is_possible : Stmt := top 24
theorem sc_is_possible : FnScope ["rule", "state", "step", "length"] ["rule", "state", "step", "length"] (defScope s_is_possible) := ⟨rfl, rfl, rfl, by decide +kernel, rfl, by decide +kernel, by decide +kernel⟩
abbrev s_state_behind : Stmt := top 25
theorem sc_state_behind : FnScope ["rule", "run", "length", "state", "step"] ["rule", "run", "length"] (defScope s_state_behind) := ⟨rfl, rfl, rfl, by decide +kernel, rfl, by decide +kernel, by decide +kernel⟩
abbrev s_law_box : Stmt := top 27
theorem sc_law_box : FnScope ["script", "cells", "cell"] ["script"] (defScope s_law_box) := ⟨rfl, rfl, rfl, by decide +kernel, rfl, by decide +kernel, by decide +kernel⟩
abbrev s_law_draw : Stmt := top 28
theorem sc_law_draw : FnScope ["box", "many", "digit", "cell", "first", "second", "third"] ["box", "many"] (defScope s_law_draw) := ⟨rfl, rfl, rfl, by decide +kernel, rfl, by decide +kernel, by decide +kernel⟩
abbrev s_law_ascending : Stmt := top 29
theorem sc_law_ascending : FnScope ["box", "low", "high", "most", "found", "k", "number"] ["box", "low", "high", "most"] (defScope s_law_ascending) := ⟨rfl, rfl, rfl, by decide +kernel, rfl, by decide +kernel, by decide +kernel⟩
abbrev s_law_leaf : Stmt := top 30
theorem sc_law_leaf : FnScope ["box", "length", "way", "high", "most"] ["box", "length"] (defScope s_law_leaf) := ⟨rfl, rfl, rfl, by decide +kernel, rfl, by decide +kernel, by decide +kernel⟩
abbrev s_law_spec : Stmt := top 31
theorem sc_law_spec : FnScope ["box", "length", "way", "parts", "k"] ["box", "length"] (defScope s_law_spec) := ⟨rfl, rfl, rfl, by decide +kernel, rfl, by decide +kernel, by decide +kernel⟩
abbrev s_law_joined : Stmt := top 32
theorem sc_law_joined : FnScope ["rules"] ["rules"] (defScope s_law_joined) := ⟨rfl, rfl, rfl, by decide +kernel, rfl, by decide +kernel, by decide +kernel⟩
abbrev s_law_made : Stmt := top 33
theorem sc_law_made : FnScope ["spec", "part"] ["spec"] (defScope s_law_made) := ⟨rfl, rfl, rfl, by decide +kernel, rfl, by decide +kernel, by decide +kernel⟩
abbrev s_law_size : Stmt := top 34
theorem sc_law_size : FnScope ["spec"] ["spec"] (defScope s_law_size) := ⟨rfl, rfl, rfl, by decide +kernel, rfl, by decide +kernel, by decide +kernel⟩
abbrev s_law_ended : Stmt := top 35
theorem sc_law_ended : FnScope ["spec", "state", "length"] ["spec", "state", "length"] (defScope s_law_ended) := ⟨rfl, rfl, rfl, by decide +kernel, rfl, by decide +kernel, by decide +kernel⟩
abbrev s_law_is_integer : Stmt := top 36
theorem sc_law_is_integer : FnScope ["told"] ["told"] (defScope s_law_is_integer) := ⟨rfl, rfl, rfl, by decide +kernel, rfl, by decide +kernel, by decide +kernel⟩
abbrev s_law_are_steps : Stmt := top 37
theorem sc_law_are_steps : FnScope ["told", "size", "step", "one"] ["told", "size"] (defScope s_law_are_steps) := ⟨rfl, rfl, rfl, by decide +kernel, rfl, by decide +kernel, by decide +kernel⟩
abbrev s_law_is_truth : Stmt := top 38
theorem sc_law_is_truth : FnScope ["told", "due"] ["told", "due"] (defScope s_law_is_truth) := ⟨rfl, rfl, rfl, by decide +kernel, rfl, by decide +kernel, by decide +kernel⟩
abbrev s_law_many : Stmt := top 39
theorem sc_law_many : FnScope ["told", "many", "line"] ["told"] (defScope s_law_many) := ⟨rfl, rfl, rfl, by decide +kernel, rfl, by decide +kernel, by decide +kernel⟩
abbrev s_law_run_ends : Stmt := top 40
theorem sc_law_run_ends : FnScope ["box", "spec", "length", "drawn", "rule", "state", "run", "many", "k", "ended", "told", "step"] ["box", "spec", "length", "drawn"] (defScope s_law_run_ends) := ⟨rfl, rfl, rfl, by decide +kernel, rfl, by decide +kernel, by decide +kernel⟩
abbrev s_law_judged : Stmt := top 41
theorem sc_law_judged : FnScope ["spec", "length", "run", "cut", "rule", "lines", "told", "part", "ended", "step"] ["spec", "length", "run", "cut"] (defScope s_law_judged) := ⟨rfl, rfl, rfl, by decide +kernel, rfl, by decide +kernel, by decide +kernel⟩
abbrev slaw : Stmt := top 42
theorem sclaw : FnScope ["script", "box", "k", "length", "spec", "drawn", "run"] ["script"] (defScope slaw) := ⟨rfl, rfl, rfl, by decide +kernel, rfl, by decide +kernel, by decide +kernel⟩
abbrev sRule_first_state : Stmt := inClass (top 4) 2
theorem scRule_first_state : FnScope ["self"] ["self"] (defScope sRule_first_state) := ⟨rfl, rfl, rfl, by decide +kernel, rfl, by decide +kernel, by decide +kernel⟩
abbrev sRule_steps : Stmt := inClass (top 4) 3
theorem scRule_steps : FnScope ["self", "state", "length"] ["self", "state", "length"] (defScope sRule_steps) := ⟨rfl, rfl, rfl, by decide +kernel, rfl, by decide +kernel, by decide +kernel⟩
abbrev sRule_is_end : Stmt := inClass (top 4) 4
theorem scRule_is_end : FnScope ["self", "state", "length"] ["self", "state", "length"] (defScope sRule_is_end) := ⟨rfl, rfl, rfl, by decide +kernel, rfl, by decide +kernel, by decide +kernel⟩
abbrev sRule_further : Stmt := inClass (top 4) 5
theorem scRule_further : FnScope ["self", "position"] ["self", "position"] (defScope sRule_further) := ⟨rfl, rfl, rfl, by decide +kernel, rfl, by decide +kernel, by decide +kernel⟩
abbrev sFromTop_steps : Stmt := inClass (top 5) 0
theorem scFromTop_steps : FnScope ["self", "state", "length"] ["self", "state", "length"] (defScope sFromTop_steps) := ⟨rfl, rfl, rfl, by decide +kernel, rfl, by decide +kernel, by decide +kernel⟩
abbrev sFromTop_further : Stmt := inClass (top 5) 1
theorem scFromTop_further : FnScope ["self", "position"] ["self", "position"] (defScope sFromTop_further) := ⟨rfl, rfl, rfl, by decide +kernel, rfl, by decide +kernel, by decide +kernel⟩
abbrev sFromMark_steps : Stmt := inClass (top 6) 0
theorem scFromMark_steps : FnScope ["self", "state", "length"] ["self", "state", "length"] (defScope sFromMark_steps) := ⟨rfl, rfl, rfl, by decide +kernel, rfl, by decide +kernel, by decide +kernel⟩
abbrev sFromMark_further : Stmt := inClass (top 6) 1
theorem scFromMark_further : FnScope ["self", "position", "mark"] ["self", "position"] (defScope sFromMark_further) := ⟨rfl, rfl, rfl, by decide +kernel, rfl, by decide +kernel, by decide +kernel⟩
abbrev sFromPointsu_initu : Stmt := inClass (top 7) 0
theorem scFromPointsu_initu : FnScope ["self", "points", "newest"] ["self", "points", "newest"] (defScope sFromPointsu_initu) := ⟨rfl, rfl, rfl, by decide +kernel, rfl, by decide +kernel, by decide +kernel⟩
abbrev sFromPoints_steps : Stmt := inClass (top 7) 1
theorem scFromPoints_steps : FnScope ["self", "state", "length"] ["self", "state", "length"] (defScope sFromPoints_steps) := ⟨rfl, rfl, rfl, by decide +kernel, rfl, by decide +kernel, by decide +kernel⟩
abbrev sFromPoints_further : Stmt := inClass (top 7) 2
theorem scFromPoints_further : FnScope ["self", "position", "passed", "point"] ["self", "position"] (defScope sFromPoints_further) := ⟨rfl, rfl, rfl, by decide +kernel, rfl, by decide +kernel, by decide +kernel⟩
abbrev sLateu_initu : Stmt := inClass (top 8) 0
theorem scLateu_initu : FnScope ["self", "lines"] ["self", "lines"] (defScope sLateu_initu) := ⟨rfl, rfl, rfl, by decide +kernel, rfl, by decide +kernel, by decide +kernel⟩
abbrev sLate_steps : Stmt := inClass (top 8) 1
theorem scLate_steps : FnScope ["self", "state", "length"] ["self", "state", "length"] (defScope sLate_steps) := ⟨rfl, rfl, rfl, by decide +kernel, rfl, by decide +kernel, by decide +kernel⟩
abbrev sLate_further : Stmt := inClass (top 8) 2
theorem scLate_further : FnScope ["self", "position", "line"] ["self", "position"] (defScope sLate_further) := ⟨rfl, rfl, rfl, by decide +kernel, rfl, by decide +kernel, by decide +kernel⟩
abbrev sEitheru_initu : Stmt := inClass (top 9) 0
theorem scEitheru_initu : FnScope ["self", "rules", "rule", "part"] ["self", "rules"] (defScope sEitheru_initu) := ⟨rfl, rfl, rfl, by decide +kernel, rfl, by decide +kernel, by decide +kernel⟩
abbrev sEither_steps : Stmt := inClass (top 9) 1
theorem scEither_steps : FnScope ["self", "state", "length"] ["self", "state", "length"] (defScope sEither_steps) := ⟨rfl, rfl, rfl, by decide +kernel, rfl, by decide +kernel, by decide +kernel⟩
abbrev sEither_further : Stmt := inClass (top 9) 2
theorem scEither_further : FnScope ["self", "position", "found", "part", "step"] ["self", "position"] (defScope sEither_further) := ⟨rfl, rfl, rfl, by decide +kernel, rfl, by decide +kernel, by decide +kernel⟩
abbrev sLaggingu_initu : Stmt := inClass (top 17) 1
theorem scLaggingu_initu : FnScope ["self", "age"] ["self", "age"] (defScope sLaggingu_initu) := ⟨rfl, rfl, rfl, by decide +kernel, rfl, by decide +kernel, by decide +kernel⟩
abbrev sLagging_first_state : Stmt := inClass (top 17) 2
theorem scLagging_first_state : FnScope ["self"] ["self"] (defScope sLagging_first_state) := ⟨rfl, rfl, rfl, by decide +kernel, rfl, by decide +kernel, by decide +kernel⟩
abbrev sLagging_steps : Stmt := inClass (top 17) 3
theorem scLagging_steps : FnScope ["self", "state", "length", "position", "highest", "found", "mark"] ["self", "state", "length"] (defScope sLagging_steps) := ⟨rfl, rfl, rfl, by decide +kernel, rfl, by decide +kernel, by decide +kernel⟩
abbrev sLagging_is_end : Stmt := inClass (top 17) 4
theorem scLagging_is_end : FnScope ["self", "state", "length"] ["self", "state", "length"] (defScope sLagging_is_end) := ⟨rfl, rfl, rfl, by decide +kernel, rfl, by decide +kernel, by decide +kernel⟩
abbrev sWorkersu_initu : Stmt := inClass (top 18) 1
theorem scWorkersu_initu : FnScope ["self", "count"] ["self", "count"] (defScope sWorkersu_initu) := ⟨rfl, rfl, rfl, by decide +kernel, rfl, by decide +kernel, by decide +kernel⟩
abbrev sWorkers_first_state : Stmt := inClass (top 18) 2
theorem scWorkers_first_state : FnScope ["self"] ["self"] (defScope sWorkers_first_state) := ⟨rfl, rfl, rfl, by decide +kernel, rfl, by decide +kernel, by decide +kernel⟩
abbrev sWorkers_steps : Stmt := inClass (top 18) 3
theorem scWorkers_steps : FnScope ["self", "state", "length", "held", "ahead", "back", "position"] ["self", "state", "length"] (defScope sWorkers_steps) := ⟨rfl, rfl, rfl, by decide +kernel, rfl, by decide +kernel, by decide +kernel⟩
abbrev sWorkers_is_end : Stmt := inClass (top 18) 4
theorem scWorkers_is_end : FnScope ["self", "state", "length"] ["self", "state", "length"] (defScope sWorkers_is_end) := ⟨rfl, rfl, rfl, by decide +kernel, rfl, by decide +kernel, by decide +kernel⟩
abbrev sRule_is_restart : Stmt := inClass (top 4) 8
theorem scRule_is_restart : FnScope ["step"] ["step"] (defScope sRule_is_restart) := ⟨rfl, rfl, rfl, by decide +kernel, rfl, by decide +kernel, by decide +kernel⟩
structure Top (K : PySem.W.Frag) (mg : Str → Option Value) : Prop where
  d_is_between : ∃ f fd, Def K mg "is_between" sis_between ["number", "least", "most"] f fd
  d_are_ascending : ∃ f fd, Def K mg "are_ascending" sare_ascending ["numbers", "least", "most"] f fd
  d_is_simple : ∃ f fd, Def K mg "is_simple" sis_simple ["rule"] f fd
  d__ahead : ∃ f fd, Def K mg "_ahead" s_ahead ["state", "length"] f fd
  d__parts : ∃ f fd, Def K mg "_parts" s_parts ["rule"] f fd
  d__moved : ∃ f fd, Def K mg "_moved" s_moved ["state", "position", "goal"] f fd
  d_is_run : ∃ f fd, Def K mg "is_run" sis_run ["rule", "run", "length"] f fd
  d_is_complete : ∃ f fd, Def K mg "is_complete" sis_complete ["rule", "run", "length"] f fd
  d_executed : ∃ f fd, Def K mg "executed" sexecuted ["run"] f fd
  d__is_possible : ∃ f fd, Def K mg "_is_possible" s_is_possible ["rule", "state", "step", "length"] f fd
  d__state_behind : ∃ f fd, Def K mg "_state_behind" s_state_behind ["rule", "run", "length"] f fd
  d__law_box : ∃ f fd, Def K mg "_law_box" s_law_box ["script"] f fd
  d__law_draw : ∃ f fd, Def K mg "_law_draw" s_law_draw ["box", "many"] f fd
  d__law_ascending : ∃ f fd, Def K mg "_law_ascending" s_law_ascending ["box", "low", "high", "most"] f fd
  d__law_leaf : ∃ f fd, Def K mg "_law_leaf" s_law_leaf ["box", "length"] f fd
  d__law_spec : ∃ f fd, Def K mg "_law_spec" s_law_spec ["box", "length"] f fd
  d__law_joined : ∃ f fd, Def K mg "_law_joined" s_law_joined ["rules"] f fd
  d__law_made : ∃ f fd, Def K mg "_law_made" s_law_made ["spec"] f fd
  d__law_size : ∃ f fd, Def K mg "_law_size" s_law_size ["spec"] f fd
  d__law_ended : ∃ f fd, Def K mg "_law_ended" s_law_ended ["spec", "state", "length"] f fd
  d__law_is_integer : ∃ f fd, Def K mg "_law_is_integer" s_law_is_integer ["told"] f fd
  d__law_are_steps : ∃ f fd, Def K mg "_law_are_steps" s_law_are_steps ["told", "size"] f fd
  d__law_is_truth : ∃ f fd, Def K mg "_law_is_truth" s_law_is_truth ["told", "due"] f fd
  d__law_many : ∃ f fd, Def K mg "_law_many" s_law_many ["told"] f fd
  d__law_run_ends : ∃ f fd, Def K mg "_law_run_ends" s_law_run_ends ["box", "spec", "length", "drawn"] f fd
  d__law_judged : ∃ f fd, Def K mg "_law_judged" s_law_judged ["spec", "length", "run", "cut"] f fd
  d_law : ∃ f fd, Def K mg "law" slaw ["script"] f fd
  b_abs : mg "abs" = none
  b_all : mg "all" = none
  b_bool : mg "bool" = none
  b_int : mg "int" = none
  b_isinstance : mg "isinstance" = none
  b_len : mg "len" = none
  b_list : mg "list" = none
  b_max : mg "max" = none
  b_range : mg "range" = none
  b_set : mg "set" = none
  b_sorted : mg "sorted" = none
  b_tuple : mg "tuple" = none
  b_zip : mg "zip" = none
  c_Rule : ClT K mg (atTop K "Rule") "Rule"
  c_FromTop : ClT K mg (atTop K "FromTop") "FromTop"
  c_FromMark : ClT K mg (atTop K "FromMark") "FromMark"
  c_FromPoints : ClT K mg (atTop K "FromPoints") "FromPoints"
  c_Late : ClT K mg (atTop K "Late") "Late"
  c_Either : ClT K mg (atTop K "Either") "Either"
  c_Lagging : ClT K mg (atTop K "Lagging") "Lagging"
  c_Workers : ClT K mg (atTop K "Workers") "Workers"
  k0_Rule : Mk0 K (atTop K "Rule")
  k0_FromTop : Mk0 K (atTop K "FromTop")
  k0_FromMark : Mk0 K (atTop K "FromMark")
  i_Rule : CIs K (atTop K "Rule")
  i_FromTop : CIs K (atTop K "FromTop")
  i_FromMark : CIs K (atTop K "FromMark")
  i_FromPoints : CIs K (atTop K "FromPoints")
  i_Late : CIs K (atTop K "Late")
  q_Rule_Rule : PySem.W.kitOne K (.ref (atTop K "Rule")) (.ref (atTop K "Rule")) = some true
  q_FromTop_Rule : PySem.W.kitOne K (.ref (atTop K "FromTop")) (.ref (atTop K "Rule")) = some true
  q_FromMark_Rule : PySem.W.kitOne K (.ref (atTop K "FromMark")) (.ref (atTop K "Rule")) = some true
  q_FromPoints_Rule : PySem.W.kitOne K (.ref (atTop K "FromPoints")) (.ref (atTop K "Rule")) = some true
  q_Late_Rule : PySem.W.kitOne K (.ref (atTop K "Late")) (.ref (atTop K "Rule")) = some true
  q_Rule_Either : PySem.W.kitOne K (.ref (atTop K "Rule")) (.ref (atTop K "Either")) = some false
  q_FromTop_Either : PySem.W.kitOne K (.ref (atTop K "FromTop")) (.ref (atTop K "Either")) = some false
  q_FromMark_Either : PySem.W.kitOne K (.ref (atTop K "FromMark")) (.ref (atTop K "Either")) = some false
  q_FromPoints_Either : PySem.W.kitOne K (.ref (atTop K "FromPoints")) (.ref (atTop K "Either")) = some false
  q_Late_Either : PySem.W.kitOne K (.ref (atTop K "Late")) (.ref (atTop K "Either")) = some false
  n_FromPoints_points : NoAttr K (atTop K "FromPoints") "points"
  n_FromPoints_newest : NoAttr K (atTop K "FromPoints") "newest"
  n_Late_lines : NoAttr K (atTop K "Late") "lines"
  n_Either_parts : NoAttr K (atTop K "Either") "parts"
  n_Lagging_age : NoAttr K (atTop K "Lagging") "age"
  n_Workers_count : NoAttr K (atTop K "Workers") "count"
  o_FromTop_RESTART : ∃ u, Con K (atTop K "FromTop") "RESTART" (.int (-1)) u
  o_FromMark_RESTART : ∃ u, Con K (atTop K "FromMark") "RESTART" (.int (-1)) u
  o_FromPoints_RESTART : ∃ u, Con K (atTop K "FromPoints") "RESTART" (.int (-1)) u
  o_Lagging_RESTART : ∃ u, Con K (atTop K "Lagging") "RESTART" (.int (-1)) u
  o_Rule_SIMPLE : ∃ u, Con K (atTop K "Rule") "SIMPLE" (.bl true) u
  o_FromTop_SIMPLE : ∃ u, Con K (atTop K "FromTop") "SIMPLE" (.bl true) u
  o_FromMark_SIMPLE : ∃ u, Con K (atTop K "FromMark") "SIMPLE" (.bl true) u
  o_FromPoints_SIMPLE : ∃ u, Con K (atTop K "FromPoints") "SIMPLE" (.bl true) u
  o_Late_SIMPLE : ∃ u, Con K (atTop K "Late") "SIMPLE" (.bl true) u
  o_Workers_RESTART : ∃ u, Con K (atTop K "Workers") "RESTART" (.int (-1)) u
  v_Rule_RESTART : ClX.CRead K (atTop K "Rule") (.type "type") ∧ ∃ u, ClX.CVal K (atTop K "Rule") (.type "type") "RESTART" (.int (-1)) u
  d_Rule_first_state : ∃ f fd, MDef K (atTop K "Rule") "first_state" "Rule.first_state" sRule_first_state ["self"] f fd
  d_Rule_steps : ∃ f fd, MDef K (atTop K "Rule") "steps" "Rule.steps" sRule_steps ["self", "state", "length"] f fd
  d_Rule_is_end : ∃ f fd, MDef K (atTop K "Rule") "is_end" "Rule.is_end" sRule_is_end ["self", "state", "length"] f fd
  d_Rule_further : ∃ f fd, MDef K (atTop K "Rule") "further" "Rule.further" sRule_further ["self", "position"] f fd
  d_FromTop_steps : ∃ f fd, MDef K (atTop K "FromTop") "steps" "FromTop.steps" sFromTop_steps ["self", "state", "length"] f fd
  d_FromTop_further : ∃ f fd, MDef K (atTop K "FromTop") "further" "FromTop.further" sFromTop_further ["self", "position"] f fd
  d_FromMark_steps : ∃ f fd, MDef K (atTop K "FromMark") "steps" "FromMark.steps" sFromMark_steps ["self", "state", "length"] f fd
  d_FromMark_further : ∃ f fd, MDef K (atTop K "FromMark") "further" "FromMark.further" sFromMark_further ["self", "position"] f fd
  d_FromPointsu_initu : ∃ f fd, IDefK K (atTop K "FromPoints") "FromPoints.__init__" sFromPointsu_initu ["self", "points", "newest"] "newest" (.bl true) f fd
  d_FromPoints_steps : ∃ f fd, MDef K (atTop K "FromPoints") "steps" "FromPoints.steps" sFromPoints_steps ["self", "state", "length"] f fd
  d_FromPoints_further : ∃ f fd, MDef K (atTop K "FromPoints") "further" "FromPoints.further" sFromPoints_further ["self", "position"] f fd
  d_Lateu_initu : ∃ f fd, IDefD K (atTop K "Late") "Late.__init__" sLateu_initu ["self", "lines"] f fd
  d_Late_steps : ∃ f fd, MDef K (atTop K "Late") "steps" "Late.steps" sLate_steps ["self", "state", "length"] f fd
  d_Late_further : ∃ f fd, MDef K (atTop K "Late") "further" "Late.further" sLate_further ["self", "position"] f fd
  d_Eitheru_initu : ∃ f fd, IDefS K (atTop K "Either") "Either.__init__" sEitheru_initu f fd
  d_Either_steps : ∃ f fd, MDef K (atTop K "Either") "steps" "Either.steps" sEither_steps ["self", "state", "length"] f fd
  d_Either_further : ∃ f fd, MDef K (atTop K "Either") "further" "Either.further" sEither_further ["self", "position"] f fd
  d_Laggingu_initu : ∃ f fd, IDef K (atTop K "Lagging") "Lagging.__init__" sLaggingu_initu ["self", "age"] f fd
  d_Lagging_first_state : ∃ f fd, MDef K (atTop K "Lagging") "first_state" "Lagging.first_state" sLagging_first_state ["self"] f fd
  d_Lagging_steps : ∃ f fd, MDef K (atTop K "Lagging") "steps" "Lagging.steps" sLagging_steps ["self", "state", "length"] f fd
  d_Lagging_is_end : ∃ f fd, MDef K (atTop K "Lagging") "is_end" "Lagging.is_end" sLagging_is_end ["self", "state", "length"] f fd
  d_FromTop_first_state : ∃ f fd, MDef K (atTop K "FromTop") "first_state" "Rule.first_state" sRule_first_state ["self"] f fd
  d_FromTop_is_end : ∃ f fd, MDef K (atTop K "FromTop") "is_end" "Rule.is_end" sRule_is_end ["self", "state", "length"] f fd
  d_FromMark_first_state : ∃ f fd, MDef K (atTop K "FromMark") "first_state" "Rule.first_state" sRule_first_state ["self"] f fd
  d_FromMark_is_end : ∃ f fd, MDef K (atTop K "FromMark") "is_end" "Rule.is_end" sRule_is_end ["self", "state", "length"] f fd
  d_FromPoints_first_state : ∃ f fd, MDef K (atTop K "FromPoints") "first_state" "Rule.first_state" sRule_first_state ["self"] f fd
  d_FromPoints_is_end : ∃ f fd, MDef K (atTop K "FromPoints") "is_end" "Rule.is_end" sRule_is_end ["self", "state", "length"] f fd
  d_Late_first_state : ∃ f fd, MDef K (atTop K "Late") "first_state" "Rule.first_state" sRule_first_state ["self"] f fd
  d_Late_is_end : ∃ f fd, MDef K (atTop K "Late") "is_end" "Rule.is_end" sRule_is_end ["self", "state", "length"] f fd
  d_Either_first_state : ∃ f fd, MDef K (atTop K "Either") "first_state" "Rule.first_state" sRule_first_state ["self"] f fd
  d_Either_is_end : ∃ f fd, MDef K (atTop K "Either") "is_end" "Rule.is_end" sRule_is_end ["self", "state", "length"] f fd
  d_Workersu_initu : ∃ f fd, IDef K (atTop K "Workers") "Workers.__init__" sWorkersu_initu ["self", "count"] f fd
  d_Workers_first_state : ∃ f fd, MDef K (atTop K "Workers") "first_state" "Workers.first_state" sWorkers_first_state ["self"] f fd
  d_Workers_steps : ∃ f fd, MDef K (atTop K "Workers") "steps" "Workers.steps" sWorkers_steps ["self", "state", "length"] f fd
  d_Workers_is_end : ∃ f fd, MDef K (atTop K "Workers") "is_end" "Workers.is_end" sWorkers_is_end ["self", "state", "length"] f fd
  d_Rule_is_restart : ∃ f fd, SDef K (atTop K "Rule") "is_restart" "Rule.is_restart" sRule_is_restart ["step"] f fd
local macro_rules | `(tactic| walk_at "hp") => `(tactic| first
  | assumption
  | exact upd_same
  | ((refine (upd_ne (by assumption)).trans ?_); walk_at "hp")
  | ((refine (upd_ne (Ne.symm (by assumption))).trans ?_); walk_at "hp")
  | ((refine Rv.back (by assumption) ?_); walk_at "hp")
  | ((refine Rv.Wg.tup (by assumption) ?_); walk_at "hp")
  | ((refine Rv.Wg.lst (by assumption) (by assumption) ?_); walk_at "hp")
  | ((refine Rv.Wd.tup (by assumption) ?_); walk_at "hp")
  | ((refine Rv.Wd.lst (by assumption) (by assumption) ?_); walk_at "hp"))
local macro_rules | `(tactic| walk_at "r1") => `(tactic| (first
  | ((with_reducible refine' rd_var ?hv ?_); (case hv => exact rfl))
  | with_reducible refine rd_c ?_
  | with_reducible refine rd_seq ?_
  | with_reducible refine rd_next ?_
  | with_reducible refine rd_asg ?_
  | with_reducible refine rd_name ?_
  | with_reducible refine rd_op ?_
  | with_reducible refine rd_un ?_
  | with_reducible refine rd_U ?_
  | with_reducible refine rd_I0 ?_
  | ((with_reducible refine' rd_I ?hc ?_); (case hc => first | exact .inr ⟨by decide, by decide⟩ | exact .inl ⟨by decide, by decide⟩ | exact ⟨by decide, by decide, by decide⟩ | exact ⟨by decide, by decide⟩ | (show (_ : Int) ≠ _; decide) | assumption))
  | ((with_reducible refine' rd_eq ?hc ?_); (case hc => exact rfl))
  | ((with_reducible refine' rd_ne ?hc ?_); (case hc => exact rfl))
  | with_reducible refine rd_test ?_
  | with_reducible refine rd_B ?_
  | with_reducible refine rd_k ?_
  | with_reducible refine rd_not ?_
  | with_reducible refine rd_notV ?_
  | with_reducible refine rd_and ?_
  | with_reducible refine rd_or ?_
  | with_reducible refine rd_andV ?_
  | with_reducible refine rd_if ?_
  | with_reducible refine rd_chain ?_
  | with_reducible refine rd_sub ?_
  | with_reducible refine rd_gcons ?_
  | with_reducible refine rd_gnil ?_
  | with_reducible refine rd_ret ?_
  | with_reducible refine rd_drop ?_
  | with_reducible refine rd_ifS ?_
  | with_reducible refine rd_cons ?_
  | with_reducible refine rd_nil ?_
  | with_reducible refine rd_CB ?_
  | with_reducible refine rd_call ?_
  | with_reducible refine rd_yes ?_
  | with_reducible refine rd_intQ ?_
  | with_reducible refine rd_absQ ?_
  | with_reducible refine rd_for ?_
  | with_reducible refine rd_lc ?_
  | with_reducible refine rd_iTup ?_
  | with_reducible refine rd_iList ?_
  | with_reducible refine rd_iRg1 ?_
  | ((with_reducible refine' rd_ItT ?hz ?_); (case hz => walk_at "hp"))
  | ((with_reducible refine' rd_ItL ?hz ?_); (case hz => walk_at "hp"))
  | ((with_reducible refine' rd_Rg1 ?hz ?_); (case hz => assumption))
  | with_reducible refine rd_sl ?_
  | with_reducible refine rd_noP ?_
  | with_reducible refine rd_part ?_
  | with_reducible refine rd_i ?_
  | ((with_reducible refine' iteD ?hz ?_); (case hz => assumption))
  | ((with_reducible refine' iteE ?hz ?_); (case hz => assumption))
  | ((with_reducible refine' iteNS ?hz ?_); (case hz => assumption))
  | with_reducible refine iteT ?_
  | with_reducible refine iteF ?_
  | with_reducible refine iteNT ?_
  | ((with_reducible refine' rd_isiI ?hk ?_); (case hk => first | exact kit_ii | exact kit_ib))
  | ((with_reducible refine' rd_isiB ?hk ?_); (case hk => first | exact kit_bb | exact kit_bi))
  | ((with_reducible refine' rd_isiT ?hz ?hk ?_); (case hz => walk_at "hp"); (case hk => exact kit_tt))
  | ((with_reducible refine' rd_isiL ?hz ?hk ?_); (case hz => walk_at "hp"); (case hk => exact kit_ll))
  | ((with_reducible refine' rd_lenT ?hz ?_); (case hz => walk_at "hp"))
  | ((with_reducible refine' rd_lenL ?hz ?_); (case hz => walk_at "hp"))
  | ((with_reducible refine' rd_ixT ?hz ?he ?_); (case hz => walk_at "hp"); (case he => first | exact rfl | assumption))
  | ((with_reducible refine' rd_ixM ?hz ?he ?_); (case hz => walk_at "hp"); (case he => first | exact rfl | assumption))
  | ((with_reducible refine' rd_setL ?hz ?he ?_); (case hz => walk_at "hp"); (case he => first | exact rfl | assumption))
  | ((with_reducible refine' rd_gtup ?hz ?he ?_); (case hz => walk_at "hp"); (case he => first | exact rfl | assumption))
  ))
local macro_rules | `(tactic| walk_at "rd") => `(tactic| repeat (walk_at "r1"))
local macro_rules | `(tactic| walk_at "re") => `(tactic| repeat (first
  | walk_at "r1"
  | ((with_reducible refine' rd_BMv ?hv ?hz ?_); (case hv => exact rfl); (case hz => walk_at "hp"))
  | ((with_reducible refine' rd_app ?hz ?hl ?_); (case hz => walk_at "hp"); (case hl => assumption))
  ))
local macro_rules | `(tactic| walk_at "rn") => `(tactic| repeat (first
  | walk_at "r1"
  | ((with_reducible refine' rd_BMv ?hv ?hz ?_); (case hv => exact rfl); (case hz => walk_at "hp"))
  | ((with_reducible refine' rd_app ?hz ?hl ?_); (case hz => walk_at "hp"); (case hl => assumption))
  | with_reducible refine rd_isN ?_
  | with_reducible refine rd_iRg2 ?_
  | ((with_reducible refine' rd_Rg2 ?hz ?_); (case hz => assumption))
  ))
local macro_rules | `(tactic| walk_at "rx") => `(tactic| repeat (first
  | with_reducible refine rd_tupG ?_
  | ((with_reducible refine' rd_lenG ?hz ?_); (case hz => assumption))
  | with_reducible refine rd_fld ?_
  | with_reducible refine rd_con ?_
  | with_reducible refine rd_cval ?_
  | with_reducible refine rd_sfld ?_
  | with_reducible refine rd_meth ?_
  | with_reducible refine rd_make ?_
  | with_reducible refine rd_maxQ ?_
  | with_reducible refine rd_makeK ?_
  | with_reducible refine rd_notNQ ?_
  | with_reducible refine rd_isnB ?_
  | with_reducible refine rd_star ?_
  | ((with_reducible refine' rd_TrT ?hz ?_); (case hz => walk_at "hp"))
  | with_reducible refine rd_makeR ?_
  | with_reducible refine rd_tupN ?_
  | with_reducible refine rd_lstN ?_
  | ((with_reducible refine' rd_lstLN ?hz ?_); (case hz => walk_at "hp"))
  | ((with_reducible refine' rd_tupLN ?hz ?_); (case hz => walk_at "hp"))
  | ((with_reducible refine' rd_slLN ?hz ?_); (case hz => walk_at "hp"))
  | walk_at "r1"
  | ((with_reducible refine' rd_BMv ?hv ?hz ?_); (case hv => exact rfl); (case hz => walk_at "hp"))
  | with_reducible refine rd_BMx ?_
  | with_reducible refine rd_truX ?_
  | ((with_reducible refine' rd_TrL ?hz ?_); (case hz => walk_at "hp"))
  | ((with_reducible refine' rd_app ?hz ?hl ?_); (case hz => walk_at "hp"); (case hl => assumption))
  | with_reducible refine rd_isN ?_
  | with_reducible refine rd_iRg2 ?_
  | ((with_reducible refine' rd_Rg2 ?hz ?_); (case hz => assumption))
  ))
section
variable {P : Program} {w : World} {K : PySem.W.Frag} {mg : Str → Option Value} {base : Heap}
def sp_law_box (K : PySem.W.Frag) : Sp := fun vs H Q _ => ∃ (a : Addr) (ns : List Int), vs = [.ref a] ∧ SqL K H a (ns.map V.int) ∧ ns.length ≤ 63 ∧ ∀ H' B, IsGb B → B.I H' → Same H H' → Q (.ref B.b) H'
set_option maxHeartbeats 4000000 in
theorem ok_law_box (T : Top K mg) {f : Addr} {fd : FuncData} (D : Def K mg "_law_box" s_law_box ["script"] f fd) : FnOk P w K mg base CX0 1 f fd ["script"] (sp_law_box K) := by
  refine D.F.ok sc_law_box (fun vs H Q E h => ?_) (fun cdv A outer s H vs Q E hr h => ?_)
  · obtain ⟨a, ns, rfl, _⟩ := h
    rfl
  · obtain ⟨a, ns, rfl, hS, hl, q⟩ := h
    refine ⟨_, (pss_cons (ps_setLc (i := 1) (own := [("cell", 2)]) (g := gName 2) (tt := tYes) rfl sc_law_box.nd rfl rfl (sw_true rfl rfl rfl (by decide +kernel)) (pi_list (pe_slice sl_list (pv 0) po_none (po_some pe_int)))
      (blkOk_by (own := [("cell", 2)]) (N := ["script", "cells", "cell"]) (sc := defScope s_law_box) (by decide +kernel)) (fun _ _ _ _ _ => (pg_name (i := 2) sc_law_box.nd rfl (.inl rfl))) (fun _ _ _ _ _ => pts_nil)
      (fun _ _ _ _ _ => (pe_callTy call_intQ (by rfl) T.b_int (by decide +kernel) (pa_cons (pv 2) pa_nil))))
    (pss_one (ps_ret (pe_lst (pa_cons (pv 1) (pa_cons (pe_lc (own := [("cell", 2)]) (g := gName 2) (tt := _) rfl sc_law_box.nd (pi_list (pv 1))
      (blkOk_by (own := [("cell", 2)]) (N := ["script", "cells", "cell"]) (sc := defScope s_law_box) (by decide +kernel)) (fun _ _ _ _ _ => (pg_name (i := 2) sc_law_box.nd rfl (.inl rfl))) (fun _ _ _ _ _ => pts_one (pt_cmpR op_ge (pe_callB call_absQ (by rfl) T.b_abs (by decide +kernel) (pa_cons (pv 2) pa_nil)) (pe_op op_pow pe_int pe_int) (nomark _)))
      (fun _ _ _ _ _ => (pe_callB call_absQ (by rfl) T.b_abs (by decide +kernel) (pa_cons (pv 2) pa_nil)))) (pa_cons pe_int (pa_cons pe_int pa_nil)))))))), ?_⟩
    walk_at "rx"
    refine rd_slL hS fun l nl => ?_
    obtain ⟨ms, em, hm⟩ : ∃ ms : List Int, cutV (ns.map V.int) none (some 63) = ms.map V.int ∧ ms.length ≤ 63 := by
      refine ⟨ns.take (HT.sIx (ns.map V.int).length (ns.map V.int).length (some 63) - 0), ?_, ?_⟩
      · unfold cutV
        show List.take _ (List.drop 0 (ns.map V.int)) = _
        rw [List.drop_zero, List.map_take]
        rfl
      · rw [List.length_take]
        omega
    rw [em]
    obtain ⟨H1, eH, S1, h1⟩ := new_gen (.lst (ms.map V.int)) nl
    rw [← eH]
    walk_at "rx"
    refine lc_map (walk_list (xs := ms.map V.int)) (ms.map V.int) ?_ ?_ (fun H' S => SqL.of (S _ _ h1)) ?_ ?_
    · rfl
    · rw [List.length_map]
      omega
    · rintro i x H3 H4 Qc R hi S ⟨rfl, ex⟩ qc
      have ex0 := ex
      have hi2 : i < ms.length := by rw [List.length_map] at hi; exact hi
      rw [List.getElem?_map, List.getElem?_eq_getElem hi2] at ex
      cases ex
      walk_at "rx"
      refine ⟨rfl, ?_⟩
      walk_at "rx"
      exact qc _ _ (Same.refl _) ex0
    intro H3 D S3 nD hD
    walk_at "rx"
    refine lc_acc (walk_list (xs := ms.map V.int)) (fun i acc => ∃ gs : List Int, acc = gs.map V.int ∧ gs.length ≤ i) ⟨[], rfl, Nat.le_refl _⟩ (fun i acc hi e => ?_) (fun H' S => SqL.of (S _ _ hD)) ?_ ?_
    · obtain ⟨gs, rfl, l⟩ := e
      rw [List.length_map] at hi ⊢
      omega
    · rintro i x H4 H5 acc Qc R hi S ⟨gs, rfl, lg⟩ ⟨rfl, ex⟩ qc rc
      have hi2 : i < ms.length := by rw [List.length_map] at hi; exact hi
      rw [List.getElem?_map, List.getElem?_eq_getElem hi2] at ex
      cases ex
      walk_at "rx"
      refine ⟨rfl, ?_⟩
      walk_at "rx"
      refine ite2 (fun z => ?_) (fun z => ?_)
      · walk_at "rx"
        exact qc _ _ (Same.refl _) ⟨gs ++ [_], by rw [List.map_append]; rfl, by rw [List.length_append]; exact Nat.succ_le_succ lg⟩
      · walk_at "rx"
        exact rc _ (Same.refl _) ⟨gs, rfl, by omega⟩
    intro H4 G acc S4 nG hG pp
    obtain ⟨gs, rfl, lg⟩ := pp
    have hD4 := S4 _ _ hD
    walk_at "rx"
    refine rd_newQ (by simp) fun H5 p S5 np hp => ?_
    have n1 : p ≠ D := fun z => by rw [z, hD4] at np; cases np
    have n2 : G ≠ D := fun z => by rw [z, hD] at nG; cases nG
    have n3 : p ≠ G := fun z => by rw [z, hG] at np; cases np
    exact q H5 (gbL p D G ms n1 n2 n3) ⟨p, D, G, ms, n1, n2, n3, rfl⟩ ⟨S5 _ _ hD4, gs, 0, 0, S5 _ _ hG, hp⟩ (((S1.trans S3).trans S4).trans S5)
def sp_law_draw (_K : PySem.W.Frag) : Sp := fun vs H Q _ => ∃ (B : Box) (m : Int), vs = [.ref B.b, .int m] ∧ IsGb B ∧ B.I H ∧ 0 < m ∧ m ≤ 1000 ∧ ∀ H' (d : Nat), Wg B H H' → (d : Int) < m → Q (.int d) H'
set_option maxHeartbeats 4000000 in
theorem ok_law_draw (T : Top K mg) {f : Addr} {fd : FuncData} (D : Def K mg "_law_draw" s_law_draw ["box", "many"] f fd) : FnOk P w K mg base CX0 1 f fd ["box", "many"] (sp_law_draw K) := by
  refine D.F.ok sc_law_draw (fun vs H Q E h => ?_) (fun cdv A outer s H vs Q E hr h => ?_)
  · obtain ⟨B, m, rfl, _⟩ := h
    rfl
  · obtain ⟨B, m, rfl, ⟨b, c, g, ns, n1, n2, n3, rfl⟩, i0, m0, m1, q0⟩ := h
    have q : ∀ H' (d : Int), Wg (gbL b c g ns n1 n2 n3) H H' → 0 ≤ d → d < m → Q (.int d) H' := fun H' d w h0 h1 => by
      have z := q0 H' d.toNat w (by omega)
      rw [show ((d.toNat : Nat) : Int) = d by omega] at z
      exact z
    have w0 := Wg.refl i0
    have ⟨hc, gs, bu, ct, hg, hb⟩ := i0
    have m9 : m ≠ 0 := by omega
    show _
    refine ⟨_, (pss_cons (ps_asg (pe_op op_add (pe_ix (r := rIxL K) ix_list (pv 0) pe_int (fun _ _ => rfl)) pe_int) (pg_sub (pv 0) pe_int set_list))
    (C8.pss_cut (ps_if (PW.pt (pw_and (pt_cmpR op_eq (pe_ix (r := rIxL K) ix_list (pv 0) pe_int (fun _ _ => rfl)) pe_int (nomark _)) (pw_and1 (pt_truQ (pe_ix (r := rIxL K) ix_list (pv 0) pe_int (fun _ _ => rfl)) (by intro _; rfl))))) (pss_one (ps_asg (pe_bm PySem.F.plainAttrs_list PySem.F.slot_list_pop PySem.F.type_list_pop mt_popQ (pe_ix (r := rIxL K) ix_list (pv 0) pe_int (fun _ _ => rfl)) (pa_cons pe_int pa_nil)) (pg_sub (pv 0) pe_int set_list))) pss_nil)
    (pss_cons (ps_if (pt_cmpR op_gt (pe_ix (r := rIxL K) ix_list (pv 0) pe_int (fun _ _ => rfl)) pe_int (nomark _)) (pss_cons (ps_set (i := 2) sc_law_draw.nd rfl (.inl rfl) (pe_op op_modN (pe_callTy call_intQ (by rfl) T.b_int (by decide +kernel) (pa_cons (pe_ix (r := rIxL K) ix_list (pv 0) pe_int (fun _ _ => rfl)) pa_nil)) (pv 1)))
    (pss_cons (ps_asg (pe_op op_fdivV (pe_ix (r := rIxL K) ix_list (pv 0) pe_int (fun _ _ => rfl)) (pv 1)) (pg_sub (pv 0) pe_int set_list))
    (pss_one (ps_ret (pv 2))))) pss_nil)
    (pss_cons (ps_set (i := 3) sc_law_draw.nd rfl (.inl rfl) (pe_ix (r := rIxL K) ix_list (pv 0) pe_int (fun _ _ => rfl)))
    (C8.pss_cut (ps_if (pt_truQ (pe_ix (r := rIxL K) ix_list (pv 0) pe_int (fun _ _ => rfl)) (by intro _; rfl)) (pss_one (ps_set (i := 3) sc_law_draw.nd rfl (.inl rfl) (pe_op op_add (pv 3) (pe_ix (r := rIxL K) ix_list (pe_ix (r := rIxL K) ix_list (pv 0) pe_int (fun _ _ => rfl)) (pe_op op_modN (pe_ix (r := rIxL K) ix_list (pv 0) pe_int (fun _ _ => rfl)) (pe_callB (r := rLenQ K) call_lenQ (by rfl) T.b_len PySem.boot_len (pa_cons (pe_ix (r := rIxL K) ix_list (pv 0) pe_int (fun _ _ => rfl)) pa_nil))) (fun _ _ => rfl))))) pss_nil)
    (pss_cons (ps_set (i := 4) sc_law_draw.nd rfl (.inl rfl) (pe_op op_modN (pe_callTy call_intQ (by rfl) T.b_int (by decide +kernel) (pa_cons (pe_op op_add (pe_op op_mul (pv 3) pe_int) (pe_op op_mul (pe_ix (r := rIxL K) ix_list (pv 0) pe_int (fun _ _ => rfl)) pe_int)) pa_nil)) pe_int))
    (pss_cons (ps_set (i := 5) sc_law_draw.nd rfl (.inl rfl) (pe_op op_modN (pe_callTy call_intQ (by rfl) T.b_int (by decide +kernel) (pa_cons (pe_op op_add (pe_op op_mul (pv 4) (pv 4)) (pe_op op_mul (pe_ix (r := rIxL K) ix_list (pv 0) pe_int (fun _ _ => rfl)) pe_int)) pa_nil)) pe_int))
    (pss_cons (ps_set (i := 6) sc_law_draw.nd rfl (.inl rfl) (pe_op op_modN (pe_callTy call_intQ (by rfl) T.b_int (by decide +kernel) (pa_cons (pe_op op_add (pe_op op_mul (pe_op op_fdivN (pv 5) pe_int) pe_int) (pv 4)) pa_nil)) pe_int))
    (pss_one (ps_ret (pe_op op_modN (pe_callTy call_intQ (by rfl) T.b_int (by decide +kernel) (pa_cons (pe_op op_fdivN (pv 6) pe_int) pa_nil)) (pv 1)))))))))))), ?_⟩
    have hvb : (gbL b c g ns n1 n2 n3).b = b := rfl
    rw [hvb]
    walk_at "rx"
    have w1 : Wg (gbL b c g ns n1 n2 n3) H (upd H b (.lst ([V.ref c, .ref g, .int bu, .int ct].set 3 (.int (ct + 1))))) := gb_put w0 rfl
    refine ⟨fun σ' H' => σ' = [some (.ref b), some (.int m), none, none, none, none, none] ∧ Wg (gbL b c g ns n1 n2 n3) H H', ?_, ?_⟩
    · walk_at "rx"
      refine ite2 (fun z => ?_) (fun z => ?_)
      · walk_at "rx"
        cases gs with
        | nil =>
          show if false = true then _ else _
          walk_at "rx"
          exact ⟨rfl, w1⟩
        | cons k gs =>
          show if true = true then _ else _
          walk_at "rx"
          have hg2 : upd H b (.lst ([V.ref c, .ref g, .int bu, .int ct].set 3 (.int (ct + 1)))) g = some (.lst ((k :: gs).map V.int)) := by rw [upd_ne n3.symm]; exact hg
          refine rd_BMl hg2 ?_
          walk_at "rx"
          refine rd_popQ (k := 0) hg2 rfl (Nat.zero_le _) ?_
          have w2 : Wg (gbL b c g ns n1 n2 n3) H (upd (upd H b (.lst ([V.ref c, .ref g, .int bu, .int ct].set 3 (.int (ct + 1))))) g (.lst (((k :: gs).map V.int).eraseIdx 0))) := gb_pop (gs2 := gs) w1 rfl
          walk_at "rx"
          exact ⟨rfl, gb_put w2 rfl⟩
      · walk_at "rx"
        exact ⟨rfl, w1⟩
    · rintro σ' H' ⟨rfl, w⟩
      have ⟨hc', gs', bu', ct', hg', hb'⟩ := w.i1
      walk_at "rx"
      refine ite2 (fun z => ?_) (fun z => ?_)
      · walk_at "rx"
        refine rd_I (show CDivV bu' m from ⟨m0, by omega⟩) ?_
        walk_at "rx"
        exact q _ _ (gb_put w rfl) (fmod_in m0).1 (fmod_in m0).2
      · walk_at "rx"
        refine ⟨fun σ2 H2 => ∃ y : Int, σ2 = [some (.ref b), some (.int m), none, some (.int y), none, none, none] ∧ H2 = H', ?_, ?_⟩
        · walk_at "rx"
          cases ns with
          | nil =>
            show if false = true then _ else _
            walk_at "rx"
            exact ⟨_, rfl, rfl⟩
          | cons k ns =>
            show if true = true then _ else _
            walk_at "rx"
            have lp : (0 : Int) < ((List.map V.int (k :: ns)).length : Int) := by rw [List.length_map, List.length_cons]; omega
            refine rd_I (show ((List.map V.int (k :: ns)).length : Int) ≠ 0 by omega) ?_
            obtain ⟨v, e1, _, e3⟩ := atI_int (fmod_in (a := ct') lp).1 (fmod_in (a := ct') lp).2
            obtain ⟨j, _, rfl⟩ := List.mem_map.mp e3
            refine rd_ixL (SqL.of hc') e1 ?_
            walk_at "rx"
            exact ⟨_, rfl, rfl⟩
        · rintro σ2 H2 ⟨y, rfl, rfl⟩
          have cm : ∀ a b : Int, CMul (a.fmod 2147483647) b := fun a b => .inl ⟨by have := fmod_in (a := a) (m := 2147483647) (by decide); omega, by have := fmod_in (a := a) (m := 2147483647) (by decide); omega⟩
          walk_at "rx"
          refine rd_I (cm _ _) ?_
          walk_at "rx"
          exact q _ _ w (fmod_in m0).1 (fmod_in m0).2
def sp_law_ascending (_K : PySem.W.Frag) : Sp := fun vs H Q _ => ∃ (B : Box) (low high most : Nat), vs = [.ref B.b, .int (low : Int), .int (high : Int), .int (most : Int)] ∧ IsGb B ∧ B.I H ∧ low ≤ high ∧ high ≤ 99 ∧ most ≤ 12 ∧
  ∀ H' t ns, Wg B H H' → H' t = some (.tup (nvs ns)) → ns.length ≤ 12 → ns.Pairwise (· < ·) → (∀ x ∈ ns, low ≤ x ∧ x ≤ high) → Q (.ref t) H'
set_option maxHeartbeats 4000000 in
theorem ok_law_ascending (T : Top K mg) {f : Addr} {fd : FuncData} (D : Def K mg "_law_ascending" s_law_ascending ["box", "low", "high", "most"] f fd) : FnOk P w K mg base CX0 2 f fd ["box", "low", "high", "most"] (sp_law_ascending K) := by
  obtain ⟨f_law_draw, fd_law_draw, D_law_draw⟩ := T.d__law_draw
  have G_law_draw : FnOk P w K mg base CX0 1 f_law_draw fd_law_draw ["box", "many"] (sp_law_draw K) := ok_law_draw T D_law_draw
  refine D.F.ok sc_law_ascending (fun vs H Q E h => ?_) (fun cdv A outer s H vs Q E hr h => ?_)
  · obtain ⟨B, low, high, most, rfl, _⟩ := h
    rfl
  · obtain ⟨B, low, high, most, rfl, hB, i0, l1, l2, l3, q⟩ := h
    refine ⟨_, (pss_cons (ps_set (i := 4) sc_law_ascending.nd rfl (.inl rfl) (pe_lst pa_nil))
    (pss_cons (ps_for PassesOwn.never rfl (pi_range1 (by rfl) T.b_range (pa_cons (pe_call G_law_draw hr (by rfl) D_law_draw.g D_law_draw.F.kp D_law_draw.b .nil pass0 (pa_cons (pv 0) (pa_cons (pe_op op_add (pv 3) pe_int) pa_nil))) pa_nil)) (pg_name (i := 5) sc_law_ascending.nd rfl (.inl rfl)) (pss_cons (ps_set (i := 6) sc_law_ascending.nd rfl (.inl rfl) (pe_op op_add (pv 1) (pe_call G_law_draw hr (by rfl) D_law_draw.g D_law_draw.F.kp D_law_draw.b .nil pass0 (pa_cons (pv 0) (pa_cons (pe_op op_add (pe_op op_sub (pv 2) (pv 1)) pe_int) pa_nil)))))
    (pss_one (ps_if (pt_cmpR (r := rIn K true) op_notIn_seq (pv 6) (pv 4) (by rfl)) (pss_one (ps_expr (pe_bm PySem.F.plainAttrs_list PySem.F.slot_list_append PySem.F.type_list_append mt_append (pv 4) (pa_cons (pv 6) pa_nil)))) pss_nil))))
    (pss_one (ps_ret (pe_callTy (r := rTupQ K) call_tupQ (by rfl) T.b_tuple (by decide +kernel) (pa_cons (pe_callB (r := rSorted K) cr_sorted (by rfl) T.b_sorted (by decide +kernel) (pa_cons (pv 4) pa_nil)) pa_nil)))))), ?_⟩
    walk_at "rx"
    refine rd_newQ (Nat.zero_le _) fun H1 Fo S1 nFo hFo => ?_
    have mFo : Fo ∉ B.m := B.nem i0 nFo
    have w1 := (Wg.refl i0).same S1
    walk_at "rx"
    refine ⟨B, (most : Int) + 1, rfl, hB, w1.i1, by omega, by omega, fun H2 k w2 hk => ?_⟩
    have hrk : -100000 ≤ (k : Int) ∧ (k : Int) ≤ 100000 := by omega
    walk_at "rx"
    refine fr_rng0 (fun i σ H' => ∃ (ms : List Nat) (y5 y6 : Option V), σ = [some (.ref B.b), some (.int (low : Int)), some (.int (high : Int)), some (.int (most : Int)), some (.ref Fo), y5, y6] ∧ Wg B H H' ∧ H' Fo = some (.lst (nvs ms)) ∧ ms.Nodup ∧ ms.length ≤ i ∧ ∀ x ∈ ms, low ≤ x ∧ x ≤ high) ⟨[], none, none, rfl, w1.trans w2, w2.lst mFo hFo, List.nodup_nil, Nat.le_refl _, fun x hx => by cases hx⟩ ?_ ?_
    · rintro i σ H3 hi ⟨ms, y5, y6, rfl, w3, h3, nd, lm, bd⟩
      walk_at "rx"
      refine ⟨B, (high : Int) - (low : Int) + 1, rfl, hB, w3.i1, by omega, by omega, fun H4 d w4 hd => ?_⟩
      have h4 := w4.lst mFo h3
      walk_at "rx"
      rw [show (low : Int) + (d : Int) = ((low + d : Nat) : Int) by omega]
      walk_at "rx"
      refine ⟨Fo, nvs ms, rfl, .inl (SqL.of h4), rfl, nvs_flat _, ?_⟩
      rw [nvs_in]
      by_cases z : low + d ∈ ms
      · rw [decide_eq_true z]
        walk_at "rx"
        exact ⟨ms, _, _, rfl, w3.trans w4, h4, nd, by omega, bd⟩
      · rw [decide_eq_false z, show (if true = true then !false else false) = true from rfl]
        have l0 : (nvs ms).length < 1000 := by rw [nvs_len]; omega
        walk_at "rx"
        refine ⟨ms ++ [low + d], _, _, rfl, (w3.trans w4).mut nFo, by rw [upd_same, nvs_app]; rfl, List.nodup_append.mpr ⟨nd, by simp, fun a ha b hb e => by rw [List.mem_singleton.mp hb] at e; exact z (e ▸ ha)⟩, by rw [List.length_append, List.length_singleton]; omega, fun x hx => ?_⟩
        rcases List.mem_append.mp hx with y | y
        · exact bd x y
        · rw [List.mem_singleton.mp y]; omega
    · rintro σ H3 ⟨ms, y5, y6, rfl, w3, h3, nd, lm, bd⟩
      have lm2 : ms.length ≤ 13 := by omega
      walk_at "rx"
      refine rd_sorted (ns := niz ms) h3 (by rw [niz_len]; omega) fun H4 D os S4 nD hD pm pw => ?_
      have em : os = niz (srt ms) := srt_is pm pw
      rw [em] at hD
      walk_at "rx"
      refine rd_newL fun H5 t S5 nt ht => ?_
      have ps := srt_perm ms
      refine q H5 t (srt ms) ((w3.same S4).same S5) ht (by rw [srt_len]; omega) ?_ fun x hx => bd x (ps.mem_iff.mp hx)
      exact (List.Pairwise.and (srt_ord ms) (ps.nodup_iff.mpr nd)).imp fun h => Nat.lt_of_le_of_ne h.1 h.2
def sp_law_leaf (_K : PySem.W.Frag) : Sp := fun vs H Q _ => ∃ (B : Box) (len : Nat), vs = [.ref B.b, .int (len : Int)] ∧ IsGb B ∧ B.I H ∧ len ≤ 60 ∧ ∀ H' a l, Wg B H H' → LOk l → LSpc H' a l → Q (.ref a) H'
set_option maxHeartbeats 4000000 in
theorem ok_law_leaf (T : Top K mg) {f : Addr} {fd : FuncData} (D : Def K mg "_law_leaf" s_law_leaf ["box", "length"] f fd) : FnOk P w K mg base CX0 3 f fd ["box", "length"] (sp_law_leaf K) := by
  obtain ⟨f_law_draw, fd_law_draw, D_law_draw⟩ := T.d__law_draw
  have G_law_draw : FnOk P w K mg base CX0 1 f_law_draw fd_law_draw ["box", "many"] (sp_law_draw K) := ok_law_draw T D_law_draw
  obtain ⟨f_law_ascending, fd_law_ascending, D_law_ascending⟩ := T.d__law_ascending
  have G_law_ascending : FnOk P w K mg base CX0 2 f_law_ascending fd_law_ascending ["box", "low", "high", "most"] (sp_law_ascending K) := ok_law_ascending T D_law_ascending
  refine D.F.ok sc_law_leaf (fun vs H Q E h => ?_) (fun cdv A outer s H vs Q E hr h => ?_)
  · obtain ⟨B, len, rfl, _⟩ := h
    rfl
  · obtain ⟨B, len, rfl, hB, i0, l60, q⟩ := h
    have pick : ∀ (x y : Int) (b : Bool), atI [V.int x, V.int y] (if b = true then 1 else 0) = some (V.int (if b = true then y else x)) := fun x y b => by cases b <;> rfl
    refine ⟨_, (pss_cons (ps_set (i := 2) sc_law_leaf.nd rfl (.inl rfl) (pe_call G_law_draw (hr.mono (by decide)) (by rfl) D_law_draw.g D_law_draw.F.kp D_law_draw.b .nil pass0 (pa_cons (pv 0) (pa_cons pe_int pa_nil))))
    (pss_cons (ps_if (pt_cmpR op_lt (pv 2) pe_int (nomark _)) (pss_one (ps_ret (pe_ix (r := rIxL K) ix_list (pe_lst (pa_cons (pe_tup (pa_cons pe_str pa_nil)) (pa_cons (pe_tup (pa_cons pe_str pa_nil)) (pa_cons (pe_tup (pa_cons pe_str pa_nil)) pa_nil)))) (pv 2) (fun _ _ => rfl)))) pss_nil)
    (C8.pss_cut (ps_if (PW.pt (pw_and (pt_cmpR op_eq (pv 2) pe_int (nomark _)) (pw_and1 (pt_cmpR op_eq (pe_call G_law_draw (hr.mono (by decide)) (by rfl) D_law_draw.g D_law_draw.F.kp D_law_draw.b .nil pass0 (pa_cons (pv 0) (pa_cons pe_int pa_nil))) pe_int (nomark _))))) (pss_one (ps_ret (pe_tup (pa_cons pe_str (pa_cons pe_non pa_nil))))) pss_nil)
    (pss_cons (ps_set (i := 3) sc_law_leaf.nd rfl (.inl rfl) (pe_ix (r := rIxL K) ix_list (pe_lst (pa_cons (pe_op op_add (pv 1) pe_int) (pa_cons pe_int pa_nil))) (pe_callTy (r := rIntB) call_intB (by rfl) T.b_int (by decide +kernel) (pa_cons (pe_cmpR op_eq (pe_call G_law_draw (hr.mono (by decide)) (by rfl) D_law_draw.g D_law_draw.F.kp D_law_draw.b .nil pass0 (pa_cons (pv 0) (pa_cons pe_int pa_nil))) pe_int (nomark _)) pa_nil)) (fun _ _ => rfl)))
    (pss_cons (ps_set (i := 4) sc_law_leaf.nd rfl (.inl rfl) (pe_ix (r := rIxL K) ix_list (pe_lst (pa_cons pe_int (pa_cons pe_int pa_nil))) (pe_callTy (r := rIntB) call_intB (by rfl) T.b_int (by decide +kernel) (pa_cons (pe_cmpR op_eq (pe_call G_law_draw (hr.mono (by decide)) (by rfl) D_law_draw.g D_law_draw.F.kp D_law_draw.b .nil pass0 (pa_cons (pv 0) (pa_cons pe_int pa_nil))) pe_int (nomark _)) pa_nil)) (fun _ _ => rfl)))
    (pss_cons (ps_if (pt_cmpR op_eq (pv 2) pe_int (nomark _)) (pss_one (ps_ret (pe_tup (pa_cons pe_str (pa_cons (pe_call G_law_ascending hr (by rfl) D_law_ascending.g D_law_ascending.F.kp D_law_ascending.b .nil pass0 (pa_cons (pv 0) (pa_cons pe_int (pa_cons (pv 3) (pa_cons (pv 4) pa_nil))))) pa_nil))))) pss_nil)
    (pss_one (ps_ret (pe_tup (pa_cons (pe_ix (r := rIxL K) ix_list (pe_lst (pa_cons pe_str (pa_cons pe_str pa_nil))) (pe_op op_sub (pv 2) pe_int) (fun _ _ => rfl)) (pa_cons (pe_call G_law_ascending hr (by rfl) D_law_ascending.g D_law_ascending.F.kp D_law_ascending.b .nil pass0 (pa_cons (pv 0) (pa_cons pe_int (pa_cons (pv 3) (pa_cons (pv 4) pa_nil))))) pa_nil))))))))))), ?_⟩
    walk_at "rx"
    refine ⟨B, 6, rfl, hB, i0, by decide, by decide, fun H1 way w1 hw => ?_⟩
    walk_at "rx"
    refine ite2 (fun z => ?_) (fun z => ?_)
    · have z3 : way < 3 := by have : (way : Int) < 3 := of_decide_eq_true z; omega
      walk_at "rx"
      refine rd_newQ (by simp) fun H2 a1 S2 n2 h2 => ?_
      walk_at "rx"
      refine rd_newQ (by simp) fun H3 a2 S3 n3 h3 => ?_
      walk_at "rx"
      refine rd_newQ (by simp) fun H4 a3 S4 n4 h4 => ?_
      walk_at "rx"
      refine rd_newQ (by simp) fun H5 L S5 n5 h5 => ?_
      have w5 := (((w1.same S2).same S3).same S4).same S5
      have g1 : H5 a1 = some (.tup [.str "once"]) := S5 _ _ (S4 _ _ (S3 _ _ h2))
      have g2 : H5 a2 = some (.tup [.str "top"]) := S5 _ _ (S4 _ _ h3)
      have g3 : H5 a3 = some (.tup [.str "mark"]) := S5 _ _ h4
      walk_at "rx"
      have c : way = 0 ∨ way = 1 ∨ way = 2 := by omega
      rcases c with rfl | rfl | rfl
      · refine rd_ixL (SqL.of h5) (show atI [V.ref a1, V.ref a2, V.ref a3] ((0 : Nat) : Int) = some (.ref a1) from rfl) ?_
        exact q H5 a1 .once w5 trivial g1
      · refine rd_ixL (SqL.of h5) (show atI [V.ref a1, V.ref a2, V.ref a3] ((1 : Nat) : Int) = some (.ref a2) from rfl) ?_
        exact q H5 a2 .top w5 trivial g2
      · refine rd_ixL (SqL.of h5) (show atI [V.ref a1, V.ref a2, V.ref a3] ((2 : Nat) : Int) = some (.ref a3) from rfl) ?_
        exact q H5 a3 .mark w5 trivial g3
    have z3 : 3 ≤ way := by have : ¬ (way : Int) < 3 := fun h => z (decide_eq_true h); omega
    walk_at "rx"
    refine ⟨fun σ' H' => σ' = [some (.ref B.b), some (.int (len : Int)), some (.int (way : Int)), none, none] ∧ Wg B H H', ?_, ?_⟩
    · walk_at "rx"
      refine ite2 (fun z5 => ?_) (fun z5 => ?_)
      · walk_at "rx"
        refine ⟨B, 3, rfl, hB, w1.i1, by decide, by decide, fun H2 d w2 hd => ?_⟩
        walk_at "rx"
        refine ite2 (fun zd => ?_) (fun zd => ?_)
        · walk_at "rx"
          refine rd_newQ (by simp) fun H3 a S3 n3 h3 => ?_
          exact q H3 a (.late none) ((w1.trans w2).same S3) trivial h3
        · walk_at "rx"
          exact ⟨rfl, w1.trans w2⟩
      · walk_at "rx"
        exact ⟨rfl, w1⟩
    rintro σ' H2 ⟨rfl, w2⟩
    walk_at "rx"
    refine rd_newQ (by simp) fun H3 L3 S3 n3 h3 => ?_
    have w3 := w2.same S3
    walk_at "rx"
    refine ⟨B, 8, rfl, hB, w3.i1, by decide, by decide, fun H4 d4 w4 hd4 => ?_⟩
    have h4 := w4.lst (B.nem w2.i1 n3) h3
    walk_at "rx"
    refine rd_intB ?_
    refine rd_ixL (SqL.of h4) (pick ((len : Int) + 1) 99 _) ?_
    obtain ⟨high, eh, hl, h99⟩ : ∃ high : Nat, (if decide (V.int (d4 : Int) = V.int 0) = true then (99 : Int) else (len : Int) + 1) = (high : Int) ∧ 1 ≤ high ∧ high ≤ 99 := by
      split
      · exact ⟨99, rfl, by decide, by decide⟩
      · exact ⟨len + 1, by omega, by omega, by omega⟩
    rw [eh]
    have w4' := w3.trans w4
    walk_at "rx"
    refine rd_newQ (by simp) fun H5 L5 S5 n5 h5 => ?_
    have w5 := w4'.same S5
    walk_at "rx"
    refine ⟨B, 8, rfl, hB, w5.i1, by decide, by decide, fun H6 d6 w6 hd6 => ?_⟩
    have h6 := w6.lst (B.nem w4'.i1 n5) h5
    walk_at "rx"
    refine rd_intB ?_
    refine rd_ixL (SqL.of h6) (pick 4 12 _) ?_
    obtain ⟨most, em, m12⟩ : ∃ most : Nat, (if decide (V.int (d6 : Int) = V.int 0) = true then (12 : Int) else 4) = (most : Int) ∧ most ≤ 12 := by
      split
      · exact ⟨12, rfl, by decide⟩
      · exact ⟨4, rfl, by decide⟩
    rw [em]
    have w6' := w5.trans w6
    walk_at "rx"
    refine ite2 (fun z5 => ?_) (fun z5 => ?_)
    · walk_at "rx"
      refine ⟨B, 0, high, most, rfl, hB, w6'.i1, Nat.zero_le _, h99, m12, fun H7 t ns w7 ht l12 asc bd => ?_⟩
      walk_at "rx"
      refine rd_newQ (by simp) fun H8 a S8 n8 h8 => ?_
      exact q H8 a (.late (some ns)) ((w6'.trans w7).same S8) ⟨l12, asc, fun x hx => by have := bd x hx; omega⟩ ⟨t, h8, S8 _ _ ht⟩
    · walk_at "rx"
      have nd5 : ¬ (way = 5) := fun e => by
        rw [e] at z5
        exact z5 (by decide)
      refine rd_newQ (by simp) fun H7 L7 S7 n7 h7 => ?_
      have w7 := w6'.same S7
      walk_at "rx"
      have c : way = 3 ∨ way = 4 := by omega
      rcases c with rfl | rfl
      · refine rd_ixL (SqL.of h7) (show atI [V.str "points", V.str "anypoint"] (((3 : Nat) : Int) - 3) = some (.str "points") from rfl) ?_
        walk_at "rx"
        refine ⟨B, 1, high, most, rfl, hB, w7.i1, hl, h99, m12, fun H8 t ns w8 ht l12 asc bd => ?_⟩
        walk_at "rx"
        refine rd_newQ (by simp) fun H9 a S9 n9 h9 => ?_
        exact q H9 a (.pts true ns) ((w7.trans w8).same S9) ⟨l12, asc, fun x hx => by have := bd x hx; omega⟩ ⟨t, h9, S9 _ _ ht⟩
      · refine rd_ixL (SqL.of h7) (show atI [V.str "points", V.str "anypoint"] (((4 : Nat) : Int) - 3) = some (.str "anypoint") from rfl) ?_
        walk_at "rx"
        refine ⟨B, 1, high, most, rfl, hB, w7.i1, hl, h99, m12, fun H8 t ns w8 ht l12 asc bd => ?_⟩
        walk_at "rx"
        refine rd_newQ (by simp) fun H9 a S9 n9 h9 => ?_
        exact q H9 a (.pts false ns) ((w7.trans w8).same S9) ⟨l12, asc, fun x hx => by have := bd x hx; omega⟩ ⟨t, h9, S9 _ _ ht⟩
def sp_law_spec (_K : PySem.W.Frag) : Sp := fun vs H Q _ => ∃ (B : Box) (len : Nat), vs = [.ref B.b, .int (len : Int)] ∧ IsGb B ∧ B.I H ∧ len ≤ 60 ∧ ∀ H' a r, Wg B H H' → KOk r → (∀ ls, r = .r (.eit ls) → ls.length ≤ 4) → KSpc B.m H' a r → Q (.ref a) H'
set_option maxHeartbeats 4000000 in
theorem ok_law_spec (T : Top K mg) {f : Addr} {fd : FuncData} (D : Def K mg "_law_spec" s_law_spec ["box", "length"] f fd) : FnOk P w K mg base CX0 4 f fd ["box", "length"] (sp_law_spec K) := by
  obtain ⟨f_law_draw, fd_law_draw, D_law_draw⟩ := T.d__law_draw
  have G_law_draw : FnOk P w K mg base CX0 1 f_law_draw fd_law_draw ["box", "many"] (sp_law_draw K) := ok_law_draw T D_law_draw
  obtain ⟨f_law_leaf, fd_law_leaf, D_law_leaf⟩ := T.d__law_leaf
  have G_law_leaf : FnOk P w K mg base CX0 3 f_law_leaf fd_law_leaf ["box", "length"] (sp_law_leaf K) := ok_law_leaf T D_law_leaf
  refine D.F.ok sc_law_spec (fun vs H Q E h => ?_) (fun cdv A outer s H vs Q E hr h => ?_)
  · obtain ⟨B, len, rfl, _⟩ := h
    rfl
  · obtain ⟨B, len, rfl, hB, i0, l60, q⟩ := h
    have pick : ∀ (x y : Int) (b : Bool), atI [V.int x, V.int y] (if b = true then 1 else 0) = some (V.int (if b = true then y else x)) := fun x y b => by cases b <;> rfl
    refine ⟨_, (pss_cons (ps_set (i := 2) sc_law_spec.nd rfl (.inl rfl) (pe_call G_law_draw (hr.mono (by decide)) (by rfl) D_law_draw.g D_law_draw.F.kp D_law_draw.b .nil pass0 (pa_cons (pv 0) (pa_cons pe_int pa_nil))))
    (pss_cons (ps_if (pt_cmpR op_lt (pv 2) pe_int (nomark _)) (pss_one (ps_ret (pe_call G_law_leaf hr (by rfl) D_law_leaf.g D_law_leaf.F.kp D_law_leaf.b .nil pass0 (pa_cons (pv 0) (pa_cons (pv 1) pa_nil))))) pss_nil)
    (pss_cons (ps_if (pt_cmpR op_eq (pv 2) pe_int (nomark _)) (pss_one (ps_ret (pe_tup (pa_cons pe_str (pa_cons (pe_call G_law_draw (hr.mono (by decide)) (by rfl) D_law_draw.g D_law_draw.F.kp D_law_draw.b .nil pass0 (pa_cons (pv 0) (pa_cons (pe_ix (r := rIxL K) ix_list (pe_lst (pa_cons pe_int (pa_cons pe_int pa_nil))) (pe_callTy (r := rIntB) call_intB (by rfl) T.b_int (by decide +kernel) (pa_cons (pe_cmpR op_eq (pe_call G_law_draw (hr.mono (by decide)) (by rfl) D_law_draw.g D_law_draw.F.kp D_law_draw.b .nil pass0 (pa_cons (pv 0) (pa_cons pe_int pa_nil))) pe_int (nomark _)) pa_nil)) (fun _ _ => rfl)) pa_nil))) pa_nil))))) pss_nil)
    (pss_cons (ps_if (pt_cmpR op_eq (pv 2) pe_int (nomark _)) (pss_one (ps_ret (pe_tup (pa_cons pe_str (pa_cons (pe_op op_add pe_int (pe_call G_law_draw (hr.mono (by decide)) (by rfl) D_law_draw.g D_law_draw.F.kp D_law_draw.b .nil pass0 (pa_cons (pv 0) (pa_cons pe_int pa_nil)))) pa_nil))))) pss_nil)
    (pss_cons (ps_set (i := 3) sc_law_spec.nd rfl (.inl rfl) (pe_lst pa_nil))
    (pss_cons (ps_for PassesOwn.never rfl (pi_range1 (by rfl) T.b_range (pa_cons (pe_op op_add pe_int (pe_call G_law_draw (hr.mono (by decide)) (by rfl) D_law_draw.g D_law_draw.F.kp D_law_draw.b .nil pass0 (pa_cons (pv 0) (pa_cons pe_int pa_nil)))) pa_nil)) (pg_name (i := 4) sc_law_spec.nd rfl (.inl rfl)) (pss_one (ps_expr (pe_bm PySem.F.plainAttrs_list PySem.F.slot_list_append PySem.F.type_list_append mt_append (pv 3) (pa_cons (pe_call G_law_leaf hr (by rfl) D_law_leaf.g D_law_leaf.F.kp D_law_leaf.b .nil pass0 (pa_cons (pv 0) (pa_cons (pv 1) pa_nil))) pa_nil)))))
    (pss_one (ps_ret (pe_tup (pa_cons pe_str (pa_cons (pv 3) pa_nil))))))))))), ?_⟩
    walk_at "rx"
    refine ⟨B, 6, rfl, hB, i0, by decide, by decide, fun H1 way w1 hw => ?_⟩
    walk_at "rx"
    refine ite2 (fun z => ?_) (fun z => ?_)
    · walk_at "rx"
      exact ⟨B, len, rfl, hB, w1.i1, l60, fun H2 a l w2 ok sp => q H2 a (.r (.leaf l)) (w1.trans w2) ok (fun ls e => by cases e) sp⟩
    walk_at "rx"
    refine ite2 (fun z2 => ?_) (fun z2 => ?_)
    · walk_at "rx"
      refine rd_newQ (by simp) fun H2 L S2 n2 h2 => ?_
      have w2 := w1.same S2
      walk_at "rx"
      refine ⟨B, 4, rfl, hB, w2.i1, by decide, by decide, fun H3 d3 w3 hd3 => ?_⟩
      have h3 := w3.lst (B.nem w1.i1 n2) h2
      walk_at "rx"
      refine rd_intB ?_
      refine rd_ixL (SqL.of h3) (pick 6 100 _) ?_
      walk_at "rx"
      refine ⟨B, _, rfl, hB, (w2.trans w3).i1, by split <;> decide, by split <;> decide, fun H4 g w4 hg => ?_⟩
      walk_at "rx"
      refine rd_newQ (by simp) fun H5 l S5 nl hl => ?_
      exact q H5 l (.r (.lag g)) (((w2.trans w3).trans w4).same S5) (show g ≤ 99 by split at hg <;> omega) (fun ls e => by cases e) hl
    walk_at "rx"
    refine ite2 (fun z3 => ?_) (fun z3 => ?_)
    · walk_at "rx"
      refine ⟨B, 3, rfl, hB, w1.i1, by decide, by decide, fun H2 c w2 hc => ?_⟩
      walk_at "rx"
      refine rd_newQ (by simp) fun H3 l S3 nl hl => ?_
      exact q H3 l (.w (1 + c)) ((w1.trans w2).same S3) ⟨by omega, by omega⟩ (fun ls e => by cases e) (show H3 l = some (.tup [.str "workers", .int ((1 + c : Nat) : Int)]) by rw [hl]; simp)
    · walk_at "rx"
      refine rd_newQ (Nat.zero_le _) fun H2 P S2 nP hP => ?_
      have w2 := w1.same S2
      have mP : P ∉ B.m := B.nem w1.i1 nP
      have nP0 := w1.free nP
      walk_at "rx"
      refine ⟨B, 4, rfl, hB, w2.i1, by decide, by decide, fun H3 k w3 hk => ?_⟩
      have hrk : -100000 ≤ 1 + (k : Int) ∧ 1 + (k : Int) ≤ 100000 := by omega
      walk_at "rx"
      refine fr_rng0 (fun i σ H' => ∃ (as : List Addr) (ls : List Lf) (y4 : Option V), σ = [some (.ref B.b), some (.int (len : Int)), some (.int (way : Int)), some (.ref P), y4] ∧ Wg B H H' ∧ H' P = some (.lst (as.map V.ref)) ∧ LsSpc H' as ls ∧ ls.length = i ∧ ∀ l ∈ ls, LOk l) ⟨[], [], none, rfl, w2.trans w3, w3.lst mP hP, ⟨rfl, fun i l e => by simp at e⟩, rfl, fun l hl => by cases hl⟩ ?_ ?_
      · rintro i σ H4 hi ⟨as, ls, y4, rfl, w4, h4, sp4, ll, okl⟩
        have la := sp4.1
        walk_at "rx"
        refine ⟨B, len, rfl, hB, w4.i1, l60, fun H5 a l w5 ok sp => ?_⟩
        have h5 := w5.lst mP h4
        have l0 : (as.map V.ref).length < 1000 := by rw [List.length_map]; omega
        walk_at "rx"
        refine ⟨as ++ [a], ls ++ [l], _, rfl, (w4.trans w5).mut nP0, by rw [upd_same, List.map_append]; rfl, ((sp4.kt (Kt.wg w5)).snoc sp).kt (Kt.mut h5), by rw [List.length_append, ll]; rfl, fun m hm => ?_⟩
        rcases List.mem_append.mp hm with y | y
        · exact okl m y
        · rw [List.mem_singleton.mp y]; exact ok
      · rintro σ H4 ⟨as, ls, y4, rfl, w4, h4, sp4, ll, okl⟩
        have ll1 : 1 ≤ ls.length ∧ ls.length ≤ 4 := by omega
        walk_at "rx"
        refine rd_newQ (by simp) fun H5 a S5 na ha => ?_
        exact q H5 a (.r (.eit ls)) (w4.same S5) ⟨ll1.1, by omega, okl⟩ (fun ls2 e => by cases e; exact ll1.2) ⟨P, as, ha, S5 _ _ h4, mP, sp4.kt (Kt.same S5)⟩
def sp_parts (K : PySem.W.Frag) : Sp := fun vs H Q _ => ∃ (a : Addr) (l : Lf), vs = [.ref a] ∧ LAt K H a l ∧ ∀ H' t, Same H H' → H' t = some (.tup [.ref a]) → Q (.ref t) H'
set_option maxHeartbeats 4000000 in
theorem ok_parts (T : Top K mg) {f : Addr} {fd : FuncData} (D : Def K mg "_parts" s_parts ["rule"] f fd) : FnOk P w K mg base CX0 1 f fd ["rule"] (sp_parts K) := by
  refine D.F.ok sc_parts (fun vs H Q E h => ?_) (fun cdv A outer s H vs Q E hr h => ?_)
  · obtain ⟨a, l, rfl, _⟩ := h
    rfl
  · obtain ⟨a, l, rfl, hl, q⟩ := h
    obtain ⟨C, dx, fs, hi, ci, k1⟩ : ∃ C dx fs, H a = some (.ins C dx fs) ∧ CIs K C ∧ PySem.W.kitOne K (.ref C) (.ref (atTop K "Either")) = some false := by
      cases l with
      | once => obtain ⟨dx, h⟩ := hl; exact ⟨_, dx, _, h, T.i_Rule, T.q_Rule_Either⟩
      | top => obtain ⟨dx, h⟩ := hl; exact ⟨_, dx, _, h, T.i_FromTop, T.q_FromTop_Either⟩
      | mark => obtain ⟨dx, h⟩ := hl; exact ⟨_, dx, _, h, T.i_FromMark, T.q_FromMark_Either⟩
      | pts nw ns => obtain ⟨dx, t, h, _⟩ := hl; exact ⟨_, dx, _, h, T.i_FromPoints, T.q_FromPoints_Either⟩
      | late o =>
        cases o with
        | none => obtain ⟨dx, h⟩ := hl; exact ⟨_, dx, _, h, T.i_Late, T.q_Late_Either⟩
        | some ns => obtain ⟨dx, t, h, _⟩ := hl; exact ⟨_, dx, _, h, T.i_Late, T.q_Late_Either⟩
    refine ⟨_, (pss_cons (ps_if (pt_val (pe_callB (r := rIsi K) call_isi (by rfl) T.b_isinstance (by decide +kernel) (pa_cons (pv 0) (pa_cons (pe_glob (v := .ref (atTop K "Either")) (by rfl) T.c_Either.g rfl) pa_nil)))) (pss_one (ps_ret (pe_fldK (K := K) rfl (pv 0) rfl))) pss_nil)
    (pss_one (ps_ret (pe_tup (pa_cons (pv 0) pa_nil))))), ?_⟩
    walk_at "rx"
    refine rd_isiO ci hi k1 ?_
    refine ⟨false, rfl, ?_⟩
    walk_at "rx"
    exact rd_newQ (by simp) fun H1 t S1 n1 h1 => q H1 t S1 h1
def spis_simple (K : PySem.W.Frag) : Sp := fun vs H Q _ => ∃ (a : Addr) (l : Lf), vs = [.ref a] ∧ LAt K H a l ∧ Q (.bl true) H
set_option maxHeartbeats 4000000 in
theorem okis_simple (T : Top K mg) {f : Addr} {fd : FuncData} (D : Def K mg "is_simple" sis_simple ["rule"] f fd) : FnOk P w K mg base CX0 1 f fd ["rule"] (spis_simple K) := by
  refine D.F.ok scis_simple (fun vs H Q E h => ?_) (fun cdv A outer s H vs Q E hr h => ?_)
  · obtain ⟨a, l, rfl, _⟩ := h
    rfl
  · obtain ⟨a, l, rfl, hl, q⟩ := h
    obtain ⟨C, dx, fs, hi, ci, k1, ⟨u, oS⟩, lo⟩ : ∃ C dx fs, H a = some (.ins C dx fs) ∧ CIs K C ∧ PySem.W.kitOne K (.ref C) (.ref (atTop K "Rule")) = some true ∧ (∃ u, Con K C "SIMPLE" (.bl true) u) ∧ fs.lookup ("SIMPLE" : Str) = none := by
      cases l with
      | once => obtain ⟨dx, h⟩ := hl; exact ⟨_, dx, _, h, T.i_Rule, T.q_Rule_Rule, T.o_Rule_SIMPLE, rfl⟩
      | top => obtain ⟨dx, h⟩ := hl; exact ⟨_, dx, _, h, T.i_FromTop, T.q_FromTop_Rule, T.o_FromTop_SIMPLE, rfl⟩
      | mark => obtain ⟨dx, h⟩ := hl; exact ⟨_, dx, _, h, T.i_FromMark, T.q_FromMark_Rule, T.o_FromMark_SIMPLE, rfl⟩
      | pts nw ns => obtain ⟨dx, t, h, _⟩ := hl; exact ⟨_, dx, _, h, T.i_FromPoints, T.q_FromPoints_Rule, T.o_FromPoints_SIMPLE, rfl⟩
      | late o =>
        cases o with
        | none => obtain ⟨dx, h⟩ := hl; exact ⟨_, dx, _, h, T.i_Late, T.q_Late_Rule, T.o_Late_SIMPLE, rfl⟩
        | some ns => obtain ⟨dx, t, h, _⟩ := hl; exact ⟨_, dx, _, h, T.i_Late, T.q_Late_Rule, T.o_Late_SIMPLE, rfl⟩
    refine ⟨_, (pss_one (ps_ret (pe_and (pe_callB (r := rIsi K) call_isi (by rfl) T.b_isinstance (by decide +kernel) (pa_cons (pv 0) (pa_cons (pe_glob (v := .ref (atTop K "Rule")) (by rfl) T.c_Rule.g rfl) pa_nil))) (pe_one (pe_conK (K := K) rfl (pv 0) rfl))))), ?_⟩
    walk_at "rx"
    refine rd_isiO ci hi k1 ?_
    refine ⟨true, rfl, iteT ?_⟩
    walk_at "rx"
    exact rd_Cn hi ci.cl oS lo q
def spEitheru_initu (K : PySem.W.Frag) : Sp := fun vs H Q _ => ∃ (a dx p : Addr) (as : List Addr) (ls : List Lf), vs = [.ref a, .ref p] ∧ H a = some (.ins (atTop K "Either") dx []) ∧ H p = some (.tup (as.map V.ref)) ∧ LsAt K H as ls ∧ 1 ≤ ls.length ∧ ls.length ≤ 7 ∧
  ∀ H' t, (∀ x o, x ≠ a → H x = some o → H' x = some o) → H' a = some (.ins (atTop K "Either") dx [("parts", .ref t)]) → H' t = some (.tup (as.map V.ref)) → Q .non H'
set_option maxHeartbeats 4000000 in
theorem okEitheru_initu (T : Top K mg) {f : Addr} {fd : FuncData} (D : IDefS K (atTop K "Either") "Either.__init__" sEitheru_initu f fd) : FnR P w K mg base CX0 2 f (fun vs H Q E => ∃ x rest, vs = x :: rest ∧ rest.length ≤ 1000 ∧ ∀ p, H p = none → spEitheru_initu K [x, .ref p] (upd H p (.tup rest)) Q E) := by
  obtain ⟨f_parts, fd_parts, D_parts⟩ := T.d__parts
  have G_parts : FnOk P w K mg base CX0 1 f_parts fd_parts ["rule"] (sp_parts K) := ok_parts T D_parts
  obtain ⟨fis_simple, fdis_simple, Dis_simple⟩ := T.d_is_simple
  have Gis_simple : FnOk P w K mg base CX0 1 fis_simple fdis_simple ["rule"] (spis_simple K) := okis_simple T Dis_simple
  obtain ⟨oc, od, kV, doc, pm, an, cdv, ct, osl, rfl, lk, hcd⟩ := D.F.ex
  refine (StX.fn_star (ps := ["self"]) lk hcd scEitheru_initu StX.cxUp_none (fun us rest hl => ?_) (fun A outer s H vs Q E hr h => ?_)).imp (sp := fun vs H Q E => ∃ ws rest, vs = ws ++ rest ∧ ws.length = (["self"] : List Str).length ∧ rest.length ≤ sizeLine ∧ ∀ p, H p = Option.none → spEitheru_initu K (ws ++ [V.ref p]) (upd H p (.tup rest)) Q E) fun vs H Q E z => ?_
  · match us, hl with
    | [u], _ => cases rest <;> rfl
  rotate_left
  · obtain ⟨x, rest, e, l, q⟩ := z
    exact ⟨[x], rest, e, rfl, len1000 l, q⟩
  suffices k : ∃ t, PSs (cxOf CX0 P w K mg base _ _ _ f cdv A outer s H E).nox (defBody sEitheru_initu) t ∧ t { nx := fun _ H' => Q .non H', rt := Q } (start _ vs) H by
    obtain ⟨t, k1, k2⟩ := k
    exact ⟨t, k1.nox, k2⟩
  · obtain ⟨a, dx, p, as, ls, rfl, ha, hp, hl, l1, l7, q⟩ := h
    have cls := T.c_Either.cls
    have la := hl.1
    refine ⟨_, (pss_cons (ps_if (PW.pt (pw_or (pt_not (pt_truQ (pv 1) (by intro _; rfl))) (pw_or1 (pt_not (pt_val (pe_callB (r := rAll K) (cr_all rfl) (by rfl) T.b_all (by decide +kernel) (pa_cons (pe_lc (own := [("rule", 2)]) (g := gName 2) (tt := tYes) rfl scEitheru_initu.nd (pi_tup (pv 1))
      (blkOk_by (own := [("rule", 2)]) (N := ["self", "rules", "rule", "part"]) (sc := defScope sEitheru_initu) (by decide +kernel)) (fun _ _ _ _ _ => (pg_name (i := 2) scEitheru_initu.nd rfl (.inl rfl))) (fun _ _ _ _ _ => pts_nil)
      (fun _ _ _ _ _ => (pe_call Gis_simple hr (by rfl) Dis_simple.g Dis_simple.F.kp Dis_simple.b .nil pass0 (pa_cons (pv 2) pa_nil)))) pa_nil))))))) (pss_one ps_never) pss_nil)
    (pss_one (ps_fldK (K := K) rfl (pv 0) (pe_callTy (r := rTupQ K) call_tupQ (by rfl) T.b_tuple (by decide +kernel) (pa_cons (pe_lc2 (wi1 := iTup K (tCall (sp_parts K) [] E0 (tCons (tVar 2) tNil))) (own := [("rule", 2), ("part", 3)]) (vs1 := [3]) (g := gName 2) (g1 := gName 3) (tt := tYes) (tt1 := tYes) rfl scEitheru_initu.nd  (pi_tup (pv 1)) (blkOk_by (own := [("rule", 2), ("part", 3)]) (N := ["self", "rules", "rule", "part"]) (sc := defScope sEitheru_initu) (by decide +kernel)) (by decide)
      (fun _ _ _ _ _ => (pg_name (i := 2) scEitheru_initu.nd rfl (.inl rfl))) (fun _ _ _ _ _ => pts_nil) (fun _ _ _ _ _ => (pi_tup (pe_call G_parts hr (by rfl) D_parts.g D_parts.F.kp D_parts.b .nil pass0 (pa_cons (pv 2) pa_nil)))) (fun _ _ _ _ _ => (pg_name (i := 3) scEitheru_initu.nd rfl (.inl rfl))) (fun _ _ _ _ _ => pts_nil)
      (fun _ _ _ _ _ => (pv 3))) pa_nil)) (by rfl)))), ?_⟩
    walk_at "rx"
    rw [show (as.map V.ref).isEmpty = false by
      cases as with
      | nil => rw [List.length_nil] at la; omega
      | cons x r => rfl]
    show if false = true then _ else _
    walk_at "rx"
    refine lc_map (walk_tup (xs := as.map V.ref)) (List.replicate ls.length (V.bl true)) ?_ ?_ (fun H' S => SqT.of (S _ _ hp)) ?_ ?_
    · rw [List.length_replicate, List.length_map, la]
    · rw [List.length_map]; omega
    · rintro i x H2 H3 Q2 R2 hi2 S2 ⟨rfl, ex⟩ qc
      rw [List.length_map] at hi2
      obtain ⟨b, e1, e2⟩ := (hl.ki (Ki.same S2)).2 i _ (List.getElem?_eq_getElem (show i < ls.length by omega))
      rw [List.getElem?_map, e1] at ex
      cases ex
      walk_at "rx"
      refine ⟨rfl, ?_⟩
      walk_at "rx"
      exact ⟨b, _, rfl, e2, qc _ _ (Same.refl _) (by rw [List.getElem?_replicate, if_pos (by omega)])⟩
    intro H3 D3 S3 nD3 hD3
    walk_at "rx"
    refine rd_all (bs := List.replicate ls.length true) (by rw [List.map_replicate]; exact hD3) ?_
    rw [all_rep]
    refine ⟨true, rfl, ?_⟩
    show if false = true then _ else _
    have hp3 := S3 _ _ hp
    have hl3 := hl.ki (Ki.same S3)
    walk_at "rx"
    refine rd_lc2 ?_
    walk_at "rx"
    refine lc2_one (fun b => [some (.ref a), some (.ref p), some (.ref b), none]) (fun b v => [some (.ref a), some (.ref p), some (.ref b), some v]) hp3 (by omega) (fun b => rfl) (fun b v => rfl) (fun b H R q => ?_) (fun i b H R eb S q => ?_) (fun b v H R q => ?_) (fun b c H R q => ?_) (fun H4 D S4 nD hD => ?_)
    · walk_at "rx"
      exact q
    · have hi2 : i < as.length := (List.getElem?_eq_some_iff.mp eb).1
      obtain ⟨b', e1, e2⟩ := (hl3.ki (Ki.same S)).2 i _ (List.getElem?_eq_getElem (show i < ls.length by omega))
      rw [eb] at e1
      cases e1
      walk_at "rx"
      refine ⟨b, _, rfl, e2, fun H5 t S5 h5 => ?_⟩
      exact rd_ItT h5 (q H5 t S5 h5)
    · walk_at "rx"
      exact q
    · walk_at "rx"
      exact q
    · walk_at "rx"
      refine rd_newL fun H5 t S5 nt ht => ?_
      have S05 := (S3.trans S4).trans S5
      walk_at "rx"
      refine rd_Sf (S05 _ _ ha) cls T.n_Either_parts (by simp) ?_
      have nta : t ≠ a := fun w => by rw [w, (S3.trans S4) _ _ ha] at nt; cases nt
      exact q _ t (fun x o z h => by rw [upd_ne z]; exact S05 _ _ h) (by rw [upd_same]; rfl) (by rw [upd_ne nta]; exact ht)
def sp_law_joined (K : PySem.W.Frag) : Sp := fun vs H Q _ => ∃ (l : Addr) (as : List Addr) (ls : List Lf), vs = [.ref l] ∧ H l = some (.lst (as.map V.ref)) ∧ LsAt K H as ls ∧ 1 ≤ ls.length ∧ ls.length ≤ 4 ∧ ∀ H' x, Same H H' → RAt K H' x (.eit ls) → Q (.ref x) H'
set_option maxHeartbeats 4000000 in
theorem ok_law_joined (T : Top K mg) {f : Addr} {fd : FuncData} (D : Def K mg "_law_joined" s_law_joined ["rules"] f fd) : FnOk P w K mg base CX0 4 f fd ["rules"] (sp_law_joined K) := by
  obtain ⟨fEitheru_initu, fdEitheru_initu, DEitheru_initu⟩ := T.d_Eitheru_initu
  have GEitheru_initu : FnR P w K mg base CX0 2 fEitheru_initu (fun vs H Q E => ∃ x rest, vs = x :: rest ∧ rest.length ≤ 1000 ∧ ∀ p, H p = none → spEitheru_initu K [x, .ref p] (upd H p (.tup rest)) Q E) := okEitheru_initu T DEitheru_initu
  refine D.F.ok sc_law_joined (fun vs H Q E h => ?_) (fun cdv A outer s H vs Q E hr h => ?_)
  · obtain ⟨l, as, ls, rfl, _⟩ := h
    rfl
  · obtain ⟨l, as, ls, rfl, hl, la, l1, l4, q⟩ := h
    have le := la.1
    have fin : ∀ (H1 : Hp) (x dx : Addr), Same H H1 → H x = none → H1 x = some (.ins (atTop K "Either") dx []) → ∀ p, H1 p = none → spEitheru_initu K [.ref x, .ref p] (upd H1 p (.tup (as.map V.ref))) (fun v H2 => v = .non ∧ Q (.ref x) H2) E0 := fun H1 x dx S1 nx hx p np => by
      have Sp : Same H1 (upd H1 p (.tup (as.map V.ref))) := same_new (Same.refl _) np
      refine ⟨x, dx, p, as, ls, rfl, Sp _ _ hx, upd_same, (la.ki (Ki.same (S1.trans Sp))), l1, by omega, fun H2 t k hx2 ht2 => ⟨rfl, q H2 x (fun b o hb => k b o (fun w => by rw [w, nx] at hb; cases hb) (Sp _ _ (S1 _ _ hb))) ⟨dx, t, as, hx2, ht2, ⟨le, fun i m e => ?_⟩⟩⟩⟩
      obtain ⟨b, e1, e2⟩ := (la.ki (Ki.same (S1.trans Sp))).2 i m e
      obtain ⟨b', e1', e2'⟩ := la.2 i m e
      have eb : b' = b := by rw [e1] at e1'; exact (Option.some.inj e1').symm
      subst eb
      have nb : ∀ {o}, H b' = some o → b' ≠ x := fun hb w => by rw [w, nx] at hb; cases hb
      have kk : ∀ a o, H a = some o → H2 a = some o := fun a o ha => k a o (fun w => by rw [w, nx] at ha; cases ha) (Sp _ _ (S1 _ _ ha))
      exact ⟨b', e1', e2'.ki fun a o _ ha => kk a o ha⟩
    refine ⟨_, (pss_cons (ps_if (pt_cmpR op_eq (pe_callB (r := rLenQ K) call_lenQ (by rfl) T.b_len PySem.boot_len (pa_cons (pv 0) pa_nil)) pe_int (nomark _)) (pss_one (ps_ret (StX.pe_makeR DEitheru_initu.mkr GEitheru_initu (hr.mono (by decide)) (by rfl) T.c_Either.g pass0 (pa_cons (pe_ix (r := rIxL K) ix_list (pv 0) pe_int (fun _ _ => rfl)) pa_nil)))) pss_nil)
    (pss_cons (ps_if (pt_cmpR op_eq (pe_callB (r := rLenQ K) call_lenQ (by rfl) T.b_len PySem.boot_len (pa_cons (pv 0) pa_nil)) pe_int (nomark _)) (pss_one (ps_ret (StX.pe_makeR DEitheru_initu.mkr GEitheru_initu (hr.mono (by decide)) (by rfl) T.c_Either.g pass0 (pa_cons (pe_ix (r := rIxL K) ix_list (pv 0) pe_int (fun _ _ => rfl)) (pa_cons (pe_ix (r := rIxL K) ix_list (pv 0) pe_int (fun _ _ => rfl)) pa_nil))))) pss_nil)
    (pss_cons (ps_if (pt_cmpR op_eq (pe_callB (r := rLenQ K) call_lenQ (by rfl) T.b_len PySem.boot_len (pa_cons (pv 0) pa_nil)) pe_int (nomark _)) (pss_one (ps_ret (StX.pe_makeR DEitheru_initu.mkr GEitheru_initu (hr.mono (by decide)) (by rfl) T.c_Either.g pass0 (pa_cons (pe_ix (r := rIxL K) ix_list (pv 0) pe_int (fun _ _ => rfl)) (pa_cons (pe_ix (r := rIxL K) ix_list (pv 0) pe_int (fun _ _ => rfl)) (pa_cons (pe_ix (r := rIxL K) ix_list (pv 0) pe_int (fun _ _ => rfl)) pa_nil)))))) pss_nil)
    (pss_one (ps_ret (StX.pe_makeR DEitheru_initu.mkr GEitheru_initu (hr.mono (by decide)) (by rfl) T.c_Either.g pass0 (pa_cons (pe_ix (r := rIxL K) ix_list (pv 0) pe_int (fun _ _ => rfl)) (pa_cons (pe_ix (r := rIxL K) ix_list (pv 0) pe_int (fun _ _ => rfl)) (pa_cons (pe_ix (r := rIxL K) ix_list (pv 0) pe_int (fun _ _ => rfl)) (pa_cons (pe_ix (r := rIxL K) ix_list (pv 0) pe_int (fun _ _ => rfl)) pa_nil)))))))))), ?_⟩
    match as, ls, hl, le, l1, l4, fin with
    | [], ls, hl, le, l1, l4, fin => rw [← le] at l1; exact absurd l1 (by decide)
    | _ :: _ :: _ :: _ :: _ :: _, ls, hl, le, l1, l4, fin => rw [← le] at l4; simp only [List.length_cons] at l4; omega
    | [a], [_], hl, le, l1, l4, fin =>
      walk_at "rx"
      show if true = true then _ else _
      walk_at "rx"
      refine rd_NwS fun H1 x dx S1 nx hx => ?_
      exact ⟨_, _, rfl, Nat.le_of_ble_eq_true rfl, fun p np => fin H1 x dx S1 nx hx p np⟩
    | [a, b], [_, _], hl, le, l1, l4, fin =>
      walk_at "rx"
      show if false = true then _ else _
      walk_at "rx"
      show if true = true then _ else _
      walk_at "rx"
      refine rd_NwS fun H1 x dx S1 nx hx => ?_
      exact ⟨_, _, rfl, Nat.le_of_ble_eq_true rfl, fun p np => fin H1 x dx S1 nx hx p np⟩
    | [a, b, c], [_, _, _], hl, le, l1, l4, fin =>
      walk_at "rx"
      show if false = true then _ else _
      walk_at "rx"
      show if false = true then _ else _
      walk_at "rx"
      show if true = true then _ else _
      walk_at "rx"
      refine rd_NwS fun H1 x dx S1 nx hx => ?_
      exact ⟨_, _, rfl, Nat.le_of_ble_eq_true rfl, fun p np => fin H1 x dx S1 nx hx p np⟩
    | [a, b, c, d], [_, _, _, _], hl, le, l1, l4, fin =>
      walk_at "rx"
      show if false = true then _ else _
      walk_at "rx"
      show if false = true then _ else _
      walk_at "rx"
      show if false = true then _ else _
      walk_at "rx"
      refine rd_NwS fun H1 x dx S1 nx hx => ?_
      exact ⟨_, _, rfl, Nat.le_of_ble_eq_true rfl, fun p np => fin H1 x dx S1 nx hx p np⟩
def spis_between (_K : PySem.W.Frag) : Sp := fun vs H Q _ => ∃ i a b : Int, vs = [.int i, .int a, .int b] ∧ a ≤ i ∧ i ≤ b ∧ Q (.bl true) H
set_option maxHeartbeats 4000000 in
theorem okis_between (T : Top K mg) {f : Addr} {fd : FuncData} (D : Def K mg "is_between" sis_between ["number", "least", "most"] f fd) : FnOk P w K mg base CX0 1 f fd ["number", "least", "most"] (spis_between K) := by
  refine D.F.ok scis_between (fun vs H Q E h => ?_) (fun cdv A outer s H vs Q E hr h => ?_)
  · obtain ⟨i, a, b, rfl, _⟩ := h
    rfl
  · obtain ⟨i, a, b, rfl, h1, h2, q⟩ := h
    refine ⟨_, (pss_one (ps_ret (pe_and (pe_callB (r := rIsi K) call_isi (by rfl) T.b_isinstance (by decide +kernel) (pa_cons (pv 0) (pa_cons (pe_bltn (v := .ty "int") (by rfl) T.b_int (by decide +kernel) rfl) pa_nil))) (pe_one (pe_chain op_le op_le (pv 1) (pv 0) (pv 2)))))), ?_⟩
    walk_at "rx"
    show Q (.bl (decide (i ≤ b))) H
    rw [decide_eq_true h2]
    exact q
def spare_ascending (_K : PySem.W.Frag) : Sp := fun vs H Q _ => ∃ (t : Addr) (lo hi : Int) (ns : List Nat), vs = [.ref t, .int lo, .int hi] ∧ H t = some (.tup (nvs ns)) ∧ ns.length ≤ 12 ∧ ns.Pairwise (· < ·) ∧ (∀ x ∈ ns, lo ≤ (x : Int) ∧ (x : Int) ≤ hi) ∧ ∀ H', Same H H' → Q (.bl true) H'
set_option maxHeartbeats 4000000 in
theorem okare_ascending (T : Top K mg) {f : Addr} {fd : FuncData} (D : Def K mg "are_ascending" sare_ascending ["numbers", "least", "most"] f fd) : FnOk P w K mg base CX0 2 f fd ["numbers", "least", "most"] (spare_ascending K) := by
  obtain ⟨fis_between, fdis_between, Dis_between⟩ := T.d_is_between
  have Gis_between : FnOk P w K mg base CX0 1 fis_between fdis_between ["number", "least", "most"] (spis_between K) := okis_between T Dis_between
  refine D.F.ok scare_ascending (fun vs H Q E h => ?_) (fun cdv A outer s H vs Q E hr h => ?_)
  · obtain ⟨t, lo, hi, ns, rfl, _⟩ := h
    rfl
  · obtain ⟨t, lo, hi, ns, rfl, ht, n12, asc, bd, q⟩ := h
    refine ⟨_, (pss_cons (ps_if (PW.pt (pw_or (pt_not (pt_val (pe_callB (r := rIsi K) call_isi (by rfl) T.b_isinstance (by decide +kernel) (pa_cons (pv 0) (pa_cons (pe_bltn (v := .ty "tuple") (by rfl) T.b_tuple (by decide +kernel) rfl) pa_nil))))) (pw_or1 (pt_not (pt_val (pe_callB (r := rAll K) (cr_all rfl) (by rfl) T.b_all (by decide +kernel) (pa_cons (pe_lc (own := [("number", 5)]) (g := gName 5) (tt := tYes) rfl scare_ascending.nd (pi_tup (pv 0))
      (blkOk_by (own := [("number", 5)]) (N := ["numbers", "least", "most", "low", "high", "number"]) (sc := defScope sare_ascending) (by decide +kernel)) (fun _ _ _ _ _ => (pg_name (i := 5) scare_ascending.nd rfl (.inl rfl))) (fun _ _ _ _ _ => pts_nil)
      (fun _ _ _ _ _ => (pe_call Gis_between hr (by rfl) Dis_between.g Dis_between.F.kp Dis_between.b .nil pass0 (pa_cons (pv 5) (pa_cons (pv 1) (pa_cons (pv 2) pa_nil)))))) pa_nil))))))) (pss_one (ps_ret pe_bl)) pss_nil)
    (pss_one (ps_ret (pe_callB (r := rAll K) (cr_all rfl) (by rfl) T.b_all (by decide +kernel) (pa_cons (pe_lc (own := [("low", 3), ("high", 4)]) (g := gTup K 2 (gCons (gName 3) (gCons (gName 4) gNil))) (tt := tYes) rfl scare_ascending.nd (pi_zpA (K := K) rfl (by rfl) T.b_zip (pa_cons (pv 0) (pa_cons (pe_slice (r := rSlA K) sl_tupA (pv 0) (po_some pe_int) po_none) pa_nil)))
      (blkOk_by (own := [("low", 3), ("high", 4)]) (N := ["numbers", "least", "most", "low", "high", "number"]) (sc := defScope sare_ascending) (by decide +kernel)) (fun _ _ _ _ _ => (pg_tup rfl (pgs_cons (pg_name (i := 3) scare_ascending.nd rfl (.inl rfl)) (pgs_cons (pg_name (i := 4) scare_ascending.nd rfl (.inl rfl)) pgs_nil)))) (fun _ _ _ _ _ => pts_nil)
      (fun _ _ _ _ _ => (pe_cmpR op_lt (pv 3) (pv 4) (nomark _)))) pa_nil))))), ?_⟩
    walk_at "rx"
    refine lc_map (walk_tup (xs := nvs ns)) (List.replicate ns.length (V.bl true)) ?_ ?_ (fun H' S => SqT.of (S _ _ ht)) ?_ ?_
    · rw [List.length_replicate, nvs_len]
    · rw [nvs_len]; omega
    · rintro i x H2 H3 Q2 R2 hi2 S2 ⟨rfl, ex⟩ qc
      rw [nvs_len] at hi2
      rw [nvs_get (List.getElem?_eq_getElem hi2)] at ex
      cases ex
      have o1 := bd _ (List.getElem_mem hi2)
      walk_at "rx"
      refine ⟨rfl, ?_⟩
      walk_at "rx"
      exact ⟨ns[i], lo, hi, rfl, o1.1, o1.2, qc _ _ (Same.refl _) (by rw [List.getElem?_replicate, if_pos hi2])⟩
    intro H3 D3 S3 nD3 hD3
    walk_at "rx"
    refine rd_all (bs := List.replicate ns.length true) (by rw [List.map_replicate]; exact hD3) ?_
    rw [all_rep]
    refine ⟨true, rfl, ?_⟩
    show if false = true then _ else _
    have ht3 := S3 _ _ ht
    walk_at "rx"
    refine rd_iZpA ?_
    walk_at "rx"
    refine rd_slA ht3 fun H4 t4 S4 h4 => ?_
    have h4 : H4 t4 = some (.tup (nvs (ns.drop 1))) := by
      rw [h4, cut_1]
      unfold nvs niz
      rw [List.map_drop, List.map_drop]
    walk_at "rx"
    refine rd_ZpT (S4 _ _ ht3) h4 ?_
    have ln : min (nvs ns).length (nvs (ns.drop 1)).length = ns.length - 1 := by rw [nvs_len, nvs_len, List.length_drop]; omega
    refine lc_map (walk_zipT (xs := nvs ns) (ys := nvs (ns.drop 1)) rfl) (List.replicate (ns.length - 1) (V.bl true)) (by rw [List.length_replicate, ln]) (by rw [ln]; omega) (fun H' S => ⟨SqT.of (S _ _ (S4 _ _ ht3)), SqT.of (S _ _ h4)⟩) ?_ ?_
    · rintro i x Hx Hy Q2 R2 hi2 Sx ⟨T1, u, w, rfl, nT, rfl, e3, e4⟩ qc
      rw [ln] at hi2
      have e5 : (nvs ns)[i]? = some u := e3
      have e6 : (nvs (ns.drop 1))[i]? = some w := e4
      have i1 : i < ns.length := by omega
      have i2 : i + 1 < ns.length := by omega
      rw [nvs_get (List.getElem?_eq_getElem i1)] at e5
      rw [nvs_get (show (ns.drop 1)[i]? = some ns[i + 1] by rw [List.getElem?_drop, Nat.add_comm, List.getElem?_eq_getElem i2])] at e6
      cases e5
      cases e6
      have lt := List.pairwise_iff_getElem.mp asc i (i + 1) i1 i2 (by omega)
      walk_at "rx"
      refine ⟨rfl, ?_⟩
      walk_at "rx"
      rw [decide_eq_true (show (ns[i] : Int) < (ns[i + 1] : Int) by omega)]
      exact qc _ _ (same_new (Same.refl _) nT) (by rw [List.getElem?_replicate, if_pos hi2])
    intro H5 D5 S5 nD5 hD5
    walk_at "rx"
    refine rd_all (bs := List.replicate (ns.length - 1) true) (by rw [List.map_replicate]; exact hD5) ?_
    rw [all_rep]
    exact q H5 ((S3.trans S4).trans S5)
def spFromPointsu_initu (K : PySem.W.Frag) : Sp := fun vs H Q _ => ∃ (a dx t : Addr) (nw : Bool) (ns : List Nat), vs = [.ref a, .ref t, .bl nw] ∧ H a = some (.ins (atTop K "FromPoints") dx []) ∧ H t = some (.tup (nvs ns)) ∧ LOk (.pts nw ns) ∧
  ∀ H', (∀ x o, x ≠ a → H x = some o → H' x = some o) → H' a = some (.ins (atTop K "FromPoints") dx [("points", .ref t), ("newest", .bl nw)]) → Q .non H'
set_option maxHeartbeats 4000000 in
theorem okFromPointsu_initu (T : Top K mg) {f : Addr} {fd : FuncData} (D : IDefK K (atTop K "FromPoints") "FromPoints.__init__" sFromPointsu_initu ["self", "points", "newest"] "newest" (.bl true) f fd) : FnOk P w K mg base CX0 3 f fd ["self", "points", "newest"] (spFromPointsu_initu K) := by
  obtain ⟨fare_ascending, fdare_ascending, Dare_ascending⟩ := T.d_are_ascending
  have Gare_ascending : FnOk P w K mg base CX0 2 fare_ascending fdare_ascending ["numbers", "least", "most"] (spare_ascending K) := okare_ascending T Dare_ascending
  refine D.F.ok scFromPointsu_initu (fun vs H Q E h => ?_) (fun cdv A outer s H vs Q E hr h => ?_)
  · obtain ⟨a, dx, t, nw, ns, rfl, _⟩ := h
    rfl
  · obtain ⟨a, dx, t, nw, ns, rfl, ha, ht, ok, q⟩ := h
    obtain ⟨n12, asc, bd⟩ := ok
    have cls := T.c_FromPoints.cls
    refine ⟨_, (pss_cons (ps_if (pt_not (pt_val (pe_call Gare_ascending hr (by rfl) Dare_ascending.g Dare_ascending.F.kp Dare_ascending.b .nil pass0 (pa_cons (pv 1) (pa_cons pe_int (pa_cons pe_int pa_nil)))))) (pss_one ps_never) pss_nil)
    (pss_cons (ps_fldK (K := K) rfl (pv 0) (pv 1) (by rfl))
    (pss_one (ps_fldK (K := K) rfl (pv 0) (pv 2) (by rfl))))), ?_⟩
    walk_at "rx"
    refine ⟨t, 1, 99, ns, rfl, ht, n12, asc, fun x hx => by have := bd x hx; omega, fun H1 S1 => ?_⟩
    refine ⟨true, rfl, ?_⟩
    show if false = true then _ else _
    walk_at "rx"
    refine rd_Sf (S1 _ _ ha) cls T.n_FromPoints_points (by simp) ?_
    obtain ⟨H2, e2⟩ : ∃ H2, H2 = upd H1 a (.ins (atTop K "FromPoints") dx (putF "points" (.ref t) [])) := ⟨_, rfl⟩
    rw [← e2]
    have ha2 : H2 a = some (.ins (atTop K "FromPoints") dx [("points", .ref t)]) := by rw [e2, upd_same]; rfl
    walk_at "rx"
    refine rd_Sf ha2 cls T.n_FromPoints_newest (by simp) ?_
    refine q _ (fun x o z h => ?_) (by rw [upd_same]; rfl)
    rw [upd_ne z, e2, upd_ne z]
    exact S1 _ _ h
def spLateu_initu (K : PySem.W.Frag) : Sp := fun vs H Q _ => ∃ (a dx : Addr) (v : V) (o : Option (List Nat)), vs = [.ref a, v] ∧ H a = some (.ins (atTop K "Late") dx []) ∧ LnV H v o ∧ LOk (.late o) ∧
  ∀ H', (∀ x o, x ≠ a → H x = some o → H' x = some o) → H' a = some (.ins (atTop K "Late") dx [("lines", v)]) → Q .non H'
set_option maxHeartbeats 4000000 in
theorem okLateu_initu (T : Top K mg) {f : Addr} {fd : FuncData} (D : IDefD K (atTop K "Late") "Late.__init__" sLateu_initu ["self", "lines"] f fd) : FnOk P w K mg base CX0 3 f fd ["self", "lines"] (spLateu_initu K) := by
  obtain ⟨fare_ascending, fdare_ascending, Dare_ascending⟩ := T.d_are_ascending
  have Gare_ascending : FnOk P w K mg base CX0 2 fare_ascending fdare_ascending ["numbers", "least", "most"] (spare_ascending K) := okare_ascending T Dare_ascending
  refine D.F.ok scLateu_initu (fun vs H Q E h => ?_) (fun cdv A outer s H vs Q E hr h => ?_)
  · obtain ⟨a, dx, v, o, rfl, _⟩ := h
    rfl
  · obtain ⟨a, dx, v, o, rfl, ha, hv, ok, q⟩ := h
    have cls := T.c_Late.cls
    refine ⟨_, (pss_cons (ps_if (PW.pt (pw_and (pt_cmpR op_notNQ (pv 1) pe_non (nomark _)) (pw_and1 (pt_not (pt_val (pe_call Gare_ascending hr (by rfl) Dare_ascending.g Dare_ascending.F.kp Dare_ascending.b .nil pass0 (pa_cons (pv 1) (pa_cons pe_int (pa_cons pe_int pa_nil))))))))) (pss_one ps_never) pss_nil)
    (pss_one (ps_fldK (K := K) rfl (pv 0) (pv 1) (by rfl)))), ?_⟩
    cases o with
    | none =>
      obtain rfl : v = .non := hv
      walk_at "rx"
      show if false = true then _ else _
      walk_at "rx"
      refine rd_Sf ha cls T.n_Late_lines (by simp) ?_
      exact q _ (fun x o z h => by rw [upd_ne z]; exact h) (by rw [upd_same]; rfl)
    | some ns =>
      obtain ⟨t, rfl, ht⟩ := hv
      obtain ⟨n12, asc, bd⟩ := ok
      walk_at "rx"
      show if true = true then _ else _
      walk_at "rx"
      refine ⟨t, 0, 99, ns, rfl, ht, n12, asc, fun x hx => by have := bd x hx; omega, fun H1 S1 => ?_⟩
      refine ⟨true, rfl, ?_⟩
      show if false = true then _ else _
      walk_at "rx"
      refine rd_Sf (S1 _ _ ha) cls T.n_Late_lines (by simp) ?_
      exact q _ (fun x o z h => by rw [upd_ne z]; exact S1 _ _ h) (by rw [upd_same]; rfl)
def spLaggingu_initu (K : PySem.W.Frag) : Sp := fun vs H Q _ => ∃ (a dx : Addr) (n : Nat), vs = [.ref a, .int (n : Int)] ∧ H a = some (.ins (atTop K "Lagging") dx []) ∧ n ≤ 99 ∧ Q .non (upd H a (.ins (atTop K "Lagging") dx [("age", .int (n : Int))]))
set_option maxHeartbeats 4000000 in
theorem okLaggingu_initu (T : Top K mg) {f : Addr} {fd : FuncData} (D : IDef K (atTop K "Lagging") "Lagging.__init__" sLaggingu_initu ["self", "age"] f fd) : FnOk P w K mg base CX0 2 f fd ["self", "age"] (spLaggingu_initu K) := by
  obtain ⟨fis_between, fdis_between, Dis_between⟩ := T.d_is_between
  have Gis_between : FnOk P w K mg base CX0 1 fis_between fdis_between ["number", "least", "most"] (spis_between K) := okis_between T Dis_between
  refine D.F.ok scLaggingu_initu (fun vs H Q E h => ?_) (fun cdv A outer s H vs Q E hr h => ?_)
  · obtain ⟨a, dx, n, rfl, _⟩ := h
    rfl
  · obtain ⟨a, dx, n, rfl, ha, l, q⟩ := h
    refine ⟨_, (pss_cons (ps_if (pt_not (pt_val (pe_call Gis_between hr (by rfl) Dis_between.g Dis_between.F.kp Dis_between.b .nil pass0 (pa_cons (pv 1) (pa_cons pe_int (pa_cons pe_int pa_nil)))))) (pss_one ps_never) pss_nil)
    (pss_one (ps_fldK (K := K) rfl (pv 0) (pv 1) (by rfl)))), ?_⟩
    walk_at "rx"
    refine ⟨n, 0, 99, rfl, by omega, by omega, ?_⟩
    refine ⟨true, rfl, ?_⟩
    show if false = true then _ else _
    walk_at "rx"
    exact rd_Sf ha T.c_Lagging.cls T.n_Lagging_age (by simp) q
def spWorkersu_initu (K : PySem.W.Frag) : Sp := fun vs H Q _ => ∃ (a dx : Addr) (n : Nat), vs = [.ref a, .int (n : Int)] ∧ H a = some (.ins (atTop K "Workers") dx []) ∧ 1 ≤ n ∧ n ≤ 3 ∧ Q .non (upd H a (.ins (atTop K "Workers") dx [("count", .int (n : Int))]))
set_option maxHeartbeats 4000000 in
theorem okWorkersu_initu (T : Top K mg) {f : Addr} {fd : FuncData} (D : IDef K (atTop K "Workers") "Workers.__init__" sWorkersu_initu ["self", "count"] f fd) : FnOk P w K mg base CX0 2 f fd ["self", "count"] (spWorkersu_initu K) := by
  obtain ⟨fis_between, fdis_between, Dis_between⟩ := T.d_is_between
  have Gis_between : FnOk P w K mg base CX0 1 fis_between fdis_between ["number", "least", "most"] (spis_between K) := okis_between T Dis_between
  refine D.F.ok scWorkersu_initu (fun vs H Q E h => ?_) (fun cdv A outer s H vs Q E hr h => ?_)
  · obtain ⟨a, dx, n, rfl, _⟩ := h
    rfl
  · obtain ⟨a, dx, n, rfl, ha, l1, l, q⟩ := h
    refine ⟨_, (pss_cons (ps_if (pt_not (pt_val (pe_call Gis_between hr (by rfl) Dis_between.g Dis_between.F.kp Dis_between.b .nil pass0 (pa_cons (pv 1) (pa_cons pe_int (pa_cons pe_int pa_nil)))))) (pss_one ps_never) pss_nil)
    (pss_one (ps_fldK (K := K) rfl (pv 0) (pv 1) (by rfl)))), ?_⟩
    walk_at "rx"
    refine ⟨n, 1, 3, rfl, by omega, by omega, ?_⟩
    refine ⟨true, rfl, ?_⟩
    show if false = true then _ else _
    walk_at "rx"
    exact rd_Sf ha T.c_Workers.cls T.n_Workers_count (by simp) q
def sp_law_made0 (K : PySem.W.Frag) : Sp := fun vs H Q _ => ∃ (a : Addr) (l : Lf), vs = [.ref a] ∧ LSpc H a l ∧ LOk l ∧ ∀ H' r, Same H H' → LAt K H' r l → Q (.ref r) H'
set_option maxHeartbeats 4000000 in
theorem ok_law_made0 (T : Top K mg) {f : Addr} {fd : FuncData} (D : Def K mg "_law_made" s_law_made ["spec"] f fd) : FnOk P w K mg base CX0 5 f fd ["spec"] (sp_law_made0 K) := by
  obtain ⟨f_law_joined, fd_law_joined, D_law_joined⟩ := T.d__law_joined
  have G_law_joined : FnOk P w K mg base CX0 4 f_law_joined fd_law_joined ["rules"] (sp_law_joined K) := ok_law_joined T D_law_joined
  obtain ⟨fFromPointsu_initu, fdFromPointsu_initu, DFromPointsu_initu⟩ := T.d_FromPointsu_initu
  have GFromPointsu_initu : FnOk P w K mg base CX0 3 fFromPointsu_initu fdFromPointsu_initu ["self", "points", "newest"] (spFromPointsu_initu K) := okFromPointsu_initu T DFromPointsu_initu
  obtain ⟨g0_FromPointsu_initu, gV0_FromPointsu_initu, kb0_FromPointsu_initu, ev0_FromPointsu_initu⟩ := DFromPointsu_initu.k0
  obtain ⟨g1_FromPointsu_initu, gV1_FromPointsu_initu, kb1_FromPointsu_initu, ev1_FromPointsu_initu⟩ := DFromPointsu_initu.k1
  obtain ⟨fLateu_initu, fdLateu_initu, DLateu_initu⟩ := T.d_Lateu_initu
  have GLateu_initu : FnOk P w K mg base CX0 3 fLateu_initu fdLateu_initu ["self", "lines"] (spLateu_initu K) := okLateu_initu T DLateu_initu
  obtain ⟨fLaggingu_initu, fdLaggingu_initu, DLaggingu_initu⟩ := T.d_Laggingu_initu
  have GLaggingu_initu : FnOk P w K mg base CX0 2 fLaggingu_initu fdLaggingu_initu ["self", "age"] (spLaggingu_initu K) := okLaggingu_initu T DLaggingu_initu
  obtain ⟨fWorkersu_initu, fdWorkersu_initu, DWorkersu_initu⟩ := T.d_Workersu_initu
  have GWorkersu_initu : FnOk P w K mg base CX0 2 fWorkersu_initu fdWorkersu_initu ["self", "count"] (spWorkersu_initu K) := okWorkersu_initu T DWorkersu_initu
  refine D.F.ok sc_law_made (fun vs H Q E h => ?_) (fun cdv A outer s H vs Q E hr h => ?_)
  · obtain ⟨a, l, rfl, _⟩ := h
    rfl
  · obtain ⟨a, l, rfl, hs, ok, q⟩ := h
    have keep : ∀ {H1 H2 : Hp} {x : Addr}, Same H H1 → H x = none → (∀ b o, b ≠ x → H1 b = some o → H2 b = some o) → Same H H2 := fun S nx k b o hb => k b o (fun w => by rw [w, nx] at hb; cases hb) (S _ _ hb)
    refine ⟨_, (pss_cons (ps_if (pt_cmpR op_eq (pe_ix (r := rIxT K) ix_tup (pv 0) pe_int (fun _ _ => rfl)) pe_str (nomark _)) (pss_one (ps_ret (pe_mk0 T.k0_Rule (by rfl) T.c_Rule.g))) pss_nil)
    (pss_cons (ps_if (pt_cmpR op_eq (pe_ix (r := rIxT K) ix_tup (pv 0) pe_int (fun _ _ => rfl)) pe_str (nomark _)) (pss_one (ps_ret (pe_mk0 T.k0_FromTop (by rfl) T.c_FromTop.g))) pss_nil)
    (pss_cons (ps_if (pt_cmpR op_eq (pe_ix (r := rIxT K) ix_tup (pv 0) pe_int (fun _ _ => rfl)) pe_str (nomark _)) (pss_one (ps_ret (pe_mk0 T.k0_FromMark (by rfl) T.c_FromMark.g))) pss_nil)
    (pss_cons (ps_if (pt_cmpR op_eq (pe_ix (r := rIxT K) ix_tup (pv 0) pe_int (fun _ _ => rfl)) pe_str (nomark _)) (pss_one (ps_ret (pe_makeK (n := 1) DFromPointsu_initu.mkr GFromPointsu_initu (hr.mono (by decide)) (by rfl) T.c_FromPoints.g kb0_FromPointsu_initu pass0 (pa_cons (pe_ix (r := rIxT K) ix_tup (pv 0) pe_int (fun _ _ => rfl)) pa_nil) pk_nil))) pss_nil)
    (pss_cons (ps_if (pt_cmpR op_eq (pe_ix (r := rIxT K) ix_tup (pv 0) pe_int (fun _ _ => rfl)) pe_str (nomark _)) (pss_one (ps_ret (pe_makeK (n := 1) DFromPointsu_initu.mkr GFromPointsu_initu (hr.mono (by decide)) (by rfl) T.c_FromPoints.g kb1_FromPointsu_initu pass0 (pa_cons (pe_ix (r := rIxT K) ix_tup (pv 0) pe_int (fun _ _ => rfl)) pa_nil) (pk_cons pe_bl pk_nil)))) pss_nil)
    (pss_cons (ps_if (pt_cmpR op_eq (pe_ix (r := rIxT K) ix_tup (pv 0) pe_int (fun _ _ => rfl)) pe_str (nomark _)) (pss_one (ps_ret (pe_make DLateu_initu.mkr GLateu_initu (hr.mono (by decide)) (by rfl) T.c_Late.g DLateu_initu.b .nil pass0 (pa_cons (pe_ix (r := rIxT K) ix_tup (pv 0) pe_int (fun _ _ => rfl)) pa_nil)))) pss_nil)
    (pss_cons (ps_if (pt_cmpR op_eq (pe_ix (r := rIxT K) ix_tup (pv 0) pe_int (fun _ _ => rfl)) pe_str (nomark _)) (pss_one (ps_ret (pe_make DLaggingu_initu.mkr GLaggingu_initu (hr.mono (by decide)) (by rfl) T.c_Lagging.g DLaggingu_initu.b .nil pass0 (pa_cons (pe_ix (r := rIxT K) ix_tup (pv 0) pe_int (fun _ _ => rfl)) pa_nil)))) pss_nil)
    (pss_cons (ps_if (pt_cmpR op_eq (pe_ix (r := rIxT K) ix_tup (pv 0) pe_int (fun _ _ => rfl)) pe_str (nomark _)) (pss_one (ps_ret (pe_make DWorkersu_initu.mkr GWorkersu_initu (hr.mono (by decide)) (by rfl) T.c_Workers.g DWorkersu_initu.b .nil pass0 (pa_cons (pe_ix (r := rIxT K) ix_tup (pv 0) pe_int (fun _ _ => rfl)) pa_nil)))) pss_nil)
    (pss_one (ps_ret (pe_call G_law_joined hr (by rfl) D_law_joined.g D_law_joined.F.kp D_law_joined.b .nil pass0 (pa_cons (pe_lc (own := [("part", 1)]) (g := gName 1) (tt := tYes) rfl sc_law_made.nd (pi_list (pe_ix (r := rIxT K) ix_tup (pv 0) pe_int (fun _ _ => rfl)))
      (blkOk_by (own := [("part", 1)]) (N := ["spec", "part"]) (sc := defScope s_law_made) (by decide +kernel)) (fun _ _ _ _ _ => (pg_name (i := 1) sc_law_made.nd rfl (.inl rfl))) (fun _ _ _ _ _ => pts_nil)
      (fun _ _ _ _ _ => pe_nev)) pa_nil)))))))))))), ?_⟩
    match l, hs, ok, q with
    | .once, hs, ok, q =>
      have hs : H a = some (.tup [.str "once"]) := hs
      walk_at "rx"
      show if true = true then _ else _
      walk_at "rx"
      exact rd_mk0 fun H1 x dx S1 nx hx => q H1 x S1 ⟨dx, hx⟩
    | .top, hs, ok, q =>
      have hs : H a = some (.tup [.str "top"]) := hs
      walk_at "rx"
      show if false = true then _ else _
      walk_at "rx"
      show if true = true then _ else _
      walk_at "rx"
      exact rd_mk0 fun H1 x dx S1 nx hx => q H1 x S1 ⟨dx, hx⟩
    | .mark, hs, ok, q =>
      have hs : H a = some (.tup [.str "mark"]) := hs
      walk_at "rx"
      show if false = true then _ else _
      walk_at "rx"
      show if false = true then _ else _
      walk_at "rx"
      show if true = true then _ else _
      walk_at "rx"
      exact rd_mk0 fun H1 x dx S1 nx hx => q H1 x S1 ⟨dx, hx⟩
    | .pts true ns, hs, ok, q =>
      obtain ⟨t, hs, ht⟩ := hs
      walk_at "rx"
      show if false = true then _ else _
      walk_at "rx"
      show if false = true then _ else _
      walk_at "rx"
      show if false = true then _ else _
      walk_at "rx"
      show if true = true then _ else _
      walk_at "rx"
      refine rd_NwK (ws := [.ref t, .bl true]) rfl rfl (fun x => ev0_FromPointsu_initu _ _) fun H1 x dx S1 nx hx => ?_
      refine ⟨x, dx, t, true, ns, rfl, hx, S1 _ _ ht, ok, fun H2 k hx2 => ⟨rfl, q H2 x (keep S1 nx k) ⟨dx, t, hx2, k t _ (fun w => by rw [w, nx] at ht; cases ht) (S1 _ _ ht)⟩⟩⟩
    | .pts false ns, hs, ok, q =>
      obtain ⟨t, hs, ht⟩ := hs
      walk_at "rx"
      show if false = true then _ else _
      walk_at "rx"
      show if false = true then _ else _
      walk_at "rx"
      show if false = true then _ else _
      walk_at "rx"
      show if false = true then _ else _
      walk_at "rx"
      show if true = true then _ else _
      walk_at "rx"
      refine rd_NwK (ws := [.ref t, .bl false]) rfl rfl (fun x => ev1_FromPointsu_initu _ _ _) fun H1 x dx S1 nx hx => ?_
      refine ⟨x, dx, t, false, ns, rfl, hx, S1 _ _ ht, ok, fun H2 k hx2 => ⟨rfl, q H2 x (keep S1 nx k) ⟨dx, t, hx2, k t _ (fun w => by rw [w, nx] at ht; cases ht) (S1 _ _ ht)⟩⟩⟩
    | .late none, hs, ok, q =>
      have hs : H a = some (.tup [.str "late", .non]) := hs
      walk_at "rx"
      show if false = true then _ else _
      walk_at "rx"
      show if false = true then _ else _
      walk_at "rx"
      show if false = true then _ else _
      walk_at "rx"
      show if false = true then _ else _
      walk_at "rx"
      show if false = true then _ else _
      walk_at "rx"
      show if true = true then _ else _
      walk_at "rx"
      refine rd_Nw fun H1 x dx S1 nx nd ne hx => ?_
      exact ⟨x, dx, .non, none, rfl, hx, rfl, ok, fun H2 k hx2 => ⟨rfl, q H2 x (keep S1 nx k) ⟨dx, hx2⟩⟩⟩
    | .late (some ns), hs, ok, q =>
      obtain ⟨t, hs, ht⟩ := hs
      walk_at "rx"
      show if false = true then _ else _
      walk_at "rx"
      show if false = true then _ else _
      walk_at "rx"
      show if false = true then _ else _
      walk_at "rx"
      show if false = true then _ else _
      walk_at "rx"
      show if false = true then _ else _
      walk_at "rx"
      show if true = true then _ else _
      walk_at "rx"
      refine rd_Nw fun H1 x dx S1 nx nd ne hx => ?_
      exact ⟨x, dx, .ref t, some ns, rfl, hx, ⟨t, rfl, S1 _ _ ht⟩, ok, fun H2 k hx2 => ⟨rfl, q H2 x (keep S1 nx k) ⟨dx, t, hx2, k t _ (fun w => by rw [w, nx] at ht; cases ht) (S1 _ _ ht)⟩⟩⟩
def sp_law_made (K : PySem.W.Frag) : Sp := fun vs H Q _ => ∃ (a : Addr) (r : Kd) (M : List Addr), vs = [.ref a] ∧ KSpc M H a r ∧ KOk r ∧ (∀ ls, r = .r (.eit ls) → ls.length ≤ 4) ∧ ∀ H' x, Same H H' → KRt K H' x r → Q (.ref x) H'
set_option maxHeartbeats 4000000 in
theorem ok_law_made (T : Top K mg) {f : Addr} {fd : FuncData} (D : Def K mg "_law_made" s_law_made ["spec"] f fd) : FnOk P w K mg base CX0 6 f fd ["spec"] (sp_law_made K) := by
  obtain ⟨f_law_joined, fd_law_joined, D_law_joined⟩ := T.d__law_joined
  have G_law_joined : FnOk P w K mg base CX0 4 f_law_joined fd_law_joined ["rules"] (sp_law_joined K) := ok_law_joined T D_law_joined
  obtain ⟨f_law_made0, fd_law_made0, D_law_made0⟩ := T.d__law_made
  have G_law_made0 : FnOk P w K mg base CX0 5 f_law_made0 fd_law_made0 ["spec"] (sp_law_made0 K) := ok_law_made0 T D_law_made0
  obtain ⟨fFromPointsu_initu, fdFromPointsu_initu, DFromPointsu_initu⟩ := T.d_FromPointsu_initu
  have GFromPointsu_initu : FnOk P w K mg base CX0 3 fFromPointsu_initu fdFromPointsu_initu ["self", "points", "newest"] (spFromPointsu_initu K) := okFromPointsu_initu T DFromPointsu_initu
  obtain ⟨g0_FromPointsu_initu, gV0_FromPointsu_initu, kb0_FromPointsu_initu, ev0_FromPointsu_initu⟩ := DFromPointsu_initu.k0
  obtain ⟨g1_FromPointsu_initu, gV1_FromPointsu_initu, kb1_FromPointsu_initu, ev1_FromPointsu_initu⟩ := DFromPointsu_initu.k1
  obtain ⟨fLateu_initu, fdLateu_initu, DLateu_initu⟩ := T.d_Lateu_initu
  have GLateu_initu : FnOk P w K mg base CX0 3 fLateu_initu fdLateu_initu ["self", "lines"] (spLateu_initu K) := okLateu_initu T DLateu_initu
  obtain ⟨fLaggingu_initu, fdLaggingu_initu, DLaggingu_initu⟩ := T.d_Laggingu_initu
  have GLaggingu_initu : FnOk P w K mg base CX0 2 fLaggingu_initu fdLaggingu_initu ["self", "age"] (spLaggingu_initu K) := okLaggingu_initu T DLaggingu_initu
  obtain ⟨fWorkersu_initu, fdWorkersu_initu, DWorkersu_initu⟩ := T.d_Workersu_initu
  have GWorkersu_initu : FnOk P w K mg base CX0 2 fWorkersu_initu fdWorkersu_initu ["self", "count"] (spWorkersu_initu K) := okWorkersu_initu T DWorkersu_initu
  refine D.F.ok sc_law_made (fun vs H Q E h => ?_) (fun cdv A outer s H vs Q E hr h => ?_)
  · obtain ⟨a, r, M, rfl, _⟩ := h
    rfl
  · obtain ⟨a, r, M, rfl, hs, ok, l4, q⟩ := h
    have keep : ∀ {H1 H2 : Hp} {x : Addr}, Same H H1 → H x = none → (∀ b o, b ≠ x → H1 b = some o → H2 b = some o) → Same H H2 := fun S nx k b o hb => k b o (fun w => by rw [w, nx] at hb; cases hb) (S _ _ hb)
    refine ⟨_, (pss_cons (ps_if (pt_cmpR op_eq (pe_ix (r := rIxT K) ix_tup (pv 0) pe_int (fun _ _ => rfl)) pe_str (nomark _)) (pss_one (ps_ret (pe_mk0 T.k0_Rule (by rfl) T.c_Rule.g))) pss_nil)
    (pss_cons (ps_if (pt_cmpR op_eq (pe_ix (r := rIxT K) ix_tup (pv 0) pe_int (fun _ _ => rfl)) pe_str (nomark _)) (pss_one (ps_ret (pe_mk0 T.k0_FromTop (by rfl) T.c_FromTop.g))) pss_nil)
    (pss_cons (ps_if (pt_cmpR op_eq (pe_ix (r := rIxT K) ix_tup (pv 0) pe_int (fun _ _ => rfl)) pe_str (nomark _)) (pss_one (ps_ret (pe_mk0 T.k0_FromMark (by rfl) T.c_FromMark.g))) pss_nil)
    (pss_cons (ps_if (pt_cmpR op_eq (pe_ix (r := rIxT K) ix_tup (pv 0) pe_int (fun _ _ => rfl)) pe_str (nomark _)) (pss_one (ps_ret (pe_makeK (n := 1) DFromPointsu_initu.mkr GFromPointsu_initu (hr.mono (by decide)) (by rfl) T.c_FromPoints.g kb0_FromPointsu_initu pass0 (pa_cons (pe_ix (r := rIxT K) ix_tup (pv 0) pe_int (fun _ _ => rfl)) pa_nil) pk_nil))) pss_nil)
    (pss_cons (ps_if (pt_cmpR op_eq (pe_ix (r := rIxT K) ix_tup (pv 0) pe_int (fun _ _ => rfl)) pe_str (nomark _)) (pss_one (ps_ret (pe_makeK (n := 1) DFromPointsu_initu.mkr GFromPointsu_initu (hr.mono (by decide)) (by rfl) T.c_FromPoints.g kb1_FromPointsu_initu pass0 (pa_cons (pe_ix (r := rIxT K) ix_tup (pv 0) pe_int (fun _ _ => rfl)) pa_nil) (pk_cons pe_bl pk_nil)))) pss_nil)
    (pss_cons (ps_if (pt_cmpR op_eq (pe_ix (r := rIxT K) ix_tup (pv 0) pe_int (fun _ _ => rfl)) pe_str (nomark _)) (pss_one (ps_ret (pe_make DLateu_initu.mkr GLateu_initu (hr.mono (by decide)) (by rfl) T.c_Late.g DLateu_initu.b .nil pass0 (pa_cons (pe_ix (r := rIxT K) ix_tup (pv 0) pe_int (fun _ _ => rfl)) pa_nil)))) pss_nil)
    (pss_cons (ps_if (pt_cmpR op_eq (pe_ix (r := rIxT K) ix_tup (pv 0) pe_int (fun _ _ => rfl)) pe_str (nomark _)) (pss_one (ps_ret (pe_make DLaggingu_initu.mkr GLaggingu_initu (hr.mono (by decide)) (by rfl) T.c_Lagging.g DLaggingu_initu.b .nil pass0 (pa_cons (pe_ix (r := rIxT K) ix_tup (pv 0) pe_int (fun _ _ => rfl)) pa_nil)))) pss_nil)
    (pss_cons (ps_if (pt_cmpR op_eq (pe_ix (r := rIxT K) ix_tup (pv 0) pe_int (fun _ _ => rfl)) pe_str (nomark _)) (pss_one (ps_ret (pe_make DWorkersu_initu.mkr GWorkersu_initu (hr.mono (by decide)) (by rfl) T.c_Workers.g DWorkersu_initu.b .nil pass0 (pa_cons (pe_ix (r := rIxT K) ix_tup (pv 0) pe_int (fun _ _ => rfl)) pa_nil)))) pss_nil)
    (pss_one (ps_ret (pe_call G_law_joined (hr.mono (by decide)) (by rfl) D_law_joined.g D_law_joined.F.kp D_law_joined.b .nil pass0 (pa_cons (pe_lc (own := [("part", 1)]) (g := gName 1) (tt := tYes) rfl sc_law_made.nd (pi_list (pe_ix (r := rIxT K) ix_tup (pv 0) pe_int (fun _ _ => rfl)))
      (blkOk_by (own := [("part", 1)]) (N := ["spec", "part"]) (sc := defScope s_law_made) (by decide +kernel)) (fun _ _ _ _ _ => (pg_name (i := 1) sc_law_made.nd rfl (.inl rfl))) (fun _ _ _ _ _ => pts_nil)
      (fun _ _ _ _ _ => (pe_call G_law_made0 (hr.mono (by decide)) (by rfl) D_law_made0.g D_law_made0.F.kp D_law_made0.b .nil pass0 (pa_cons (pv 1) pa_nil)))) pa_nil)))))))))))), ?_⟩
    match r, hs, ok, l4, q with
    | .r (.leaf .once), hs, ok, l4, q =>
      have hs : H a = some (.tup [.str "once"]) := hs
      walk_at "rx"
      show if true = true then _ else _
      walk_at "rx"
      exact rd_mk0 fun H1 x dx S1 nx hx => q H1 x S1 ⟨dx, hx⟩
    | .r (.leaf .top), hs, ok, l4, q =>
      have hs : H a = some (.tup [.str "top"]) := hs
      walk_at "rx"
      show if false = true then _ else _
      walk_at "rx"
      show if true = true then _ else _
      walk_at "rx"
      exact rd_mk0 fun H1 x dx S1 nx hx => q H1 x S1 ⟨dx, hx⟩
    | .r (.leaf .mark), hs, ok, l4, q =>
      have hs : H a = some (.tup [.str "mark"]) := hs
      walk_at "rx"
      show if false = true then _ else _
      walk_at "rx"
      show if false = true then _ else _
      walk_at "rx"
      show if true = true then _ else _
      walk_at "rx"
      exact rd_mk0 fun H1 x dx S1 nx hx => q H1 x S1 ⟨dx, hx⟩
    | .r (.leaf (.pts true ns)), hs, ok, l4, q =>
      obtain ⟨t, hs, ht⟩ := hs
      walk_at "rx"
      show if false = true then _ else _
      walk_at "rx"
      show if false = true then _ else _
      walk_at "rx"
      show if false = true then _ else _
      walk_at "rx"
      show if true = true then _ else _
      walk_at "rx"
      refine rd_NwK (ws := [.ref t, .bl true]) rfl rfl (fun x => ev0_FromPointsu_initu _ _) fun H1 x dx S1 nx hx => ?_
      refine ⟨x, dx, t, true, ns, rfl, hx, S1 _ _ ht, ok, fun H2 k hx2 => ⟨rfl, q H2 x (keep S1 nx k) ⟨dx, t, hx2, k t _ (fun w => by rw [w, nx] at ht; cases ht) (S1 _ _ ht)⟩⟩⟩
    | .r (.leaf (.pts false ns)), hs, ok, l4, q =>
      obtain ⟨t, hs, ht⟩ := hs
      walk_at "rx"
      show if false = true then _ else _
      walk_at "rx"
      show if false = true then _ else _
      walk_at "rx"
      show if false = true then _ else _
      walk_at "rx"
      show if false = true then _ else _
      walk_at "rx"
      show if true = true then _ else _
      walk_at "rx"
      refine rd_NwK (ws := [.ref t, .bl false]) rfl rfl (fun x => ev1_FromPointsu_initu _ _ _) fun H1 x dx S1 nx hx => ?_
      refine ⟨x, dx, t, false, ns, rfl, hx, S1 _ _ ht, ok, fun H2 k hx2 => ⟨rfl, q H2 x (keep S1 nx k) ⟨dx, t, hx2, k t _ (fun w => by rw [w, nx] at ht; cases ht) (S1 _ _ ht)⟩⟩⟩
    | .r (.leaf (.late none)), hs, ok, l4, q =>
      have hs : H a = some (.tup [.str "late", .non]) := hs
      walk_at "rx"
      show if false = true then _ else _
      walk_at "rx"
      show if false = true then _ else _
      walk_at "rx"
      show if false = true then _ else _
      walk_at "rx"
      show if false = true then _ else _
      walk_at "rx"
      show if false = true then _ else _
      walk_at "rx"
      show if true = true then _ else _
      walk_at "rx"
      refine rd_Nw fun H1 x dx S1 nx nd ne hx => ?_
      exact ⟨x, dx, .non, none, rfl, hx, rfl, ok, fun H2 k hx2 => ⟨rfl, q H2 x (keep S1 nx k) ⟨dx, hx2⟩⟩⟩
    | .r (.leaf (.late (some ns))), hs, ok, l4, q =>
      obtain ⟨t, hs, ht⟩ := hs
      walk_at "rx"
      show if false = true then _ else _
      walk_at "rx"
      show if false = true then _ else _
      walk_at "rx"
      show if false = true then _ else _
      walk_at "rx"
      show if false = true then _ else _
      walk_at "rx"
      show if false = true then _ else _
      walk_at "rx"
      show if true = true then _ else _
      walk_at "rx"
      refine rd_Nw fun H1 x dx S1 nx nd ne hx => ?_
      exact ⟨x, dx, .ref t, some ns, rfl, hx, ⟨t, rfl, S1 _ _ ht⟩, ok, fun H2 k hx2 => ⟨rfl, q H2 x (keep S1 nx k) ⟨dx, t, hx2, k t _ (fun w => by rw [w, nx] at ht; cases ht) (S1 _ _ ht)⟩⟩⟩
    | .r (.lag n), hs, ok, l4, q =>
      have hs : H a = some (.tup [.str "lag", .int (n : Int)]) := hs
      walk_at "rx"
      show if false = true then _ else _
      walk_at "rx"
      show if false = true then _ else _
      walk_at "rx"
      show if false = true then _ else _
      walk_at "rx"
      show if false = true then _ else _
      walk_at "rx"
      show if false = true then _ else _
      walk_at "rx"
      show if false = true then _ else _
      walk_at "rx"
      show if true = true then _ else _
      walk_at "rx"
      refine rd_Nw fun H1 x dx S1 nx nd ne hx => ?_
      exact ⟨x, dx, n, rfl, hx, ok, rfl, q _ x (same_ins S1 nx) ⟨dx, upd_same⟩⟩
    | .w c, hs, ok, l4, q =>
      have hs : H a = some (.tup [.str "workers", .int (c : Int)]) := hs
      walk_at "rx"
      show if false = true then _ else _
      walk_at "rx"
      show if false = true then _ else _
      walk_at "rx"
      show if false = true then _ else _
      walk_at "rx"
      show if false = true then _ else _
      walk_at "rx"
      show if false = true then _ else _
      walk_at "rx"
      show if false = true then _ else _
      walk_at "rx"
      show if false = true then _ else _
      walk_at "rx"
      show if true = true then _ else _
      walk_at "rx"
      refine rd_Nw fun H1 x dx S1 nx nd ne hx => ?_
      exact ⟨x, dx, c, rfl, hx, ok.1, ok.2, rfl, q _ x (same_ins S1 nx) ⟨dx, upd_same⟩⟩
    | .r (.eit ls), hs, ok, l4, q =>
      obtain ⟨l, as, hs, hl, ml, sp⟩ := hs
      walk_at "rx"
      show if false = true then _ else _
      walk_at "rx"
      show if false = true then _ else _
      walk_at "rx"
      show if false = true then _ else _
      walk_at "rx"
      show if false = true then _ else _
      walk_at "rx"
      show if false = true then _ else _
      walk_at "rx"
      show if false = true then _ else _
      walk_at "rx"
      show if false = true then _ else _
      walk_at "rx"
      show if false = true then _ else _
      walk_at "rx"
      have la := sp.1
      have n4 := l4 ls rfl
      refine lc_acc4 (walk_list (xs := as.map V.ref)) (fun i acc H' => ∃ bs, acc = bs.map V.ref ∧ LsAt K H' bs (ls.take i)) ⟨[], rfl, ⟨rfl, fun i l e => by simp at e⟩⟩ (fun i acc Ha Hb k pp => by obtain ⟨bs, e1, e2⟩ := pp; exact ⟨bs, e1, e2.ki k⟩) (fun i acc H' hi pp => by
        obtain ⟨cs, rfl, e2⟩ := pp
        have h1 := e2.1
        rw [List.length_take] at h1
        rw [List.length_map]
        omega) (fun H' S => SqL.of (S _ _ hl)) ?_ ?_
      · rintro i x Hx Hy acc Qc R hi2 Sx ⟨cs, rfl, tc⟩ ⟨rfl, ex⟩ qc rc
        rw [List.length_map] at hi2
        have hil : i < ls.length := by omega
        obtain ⟨b, e1, e2⟩ := (sp.kt (Kt.same Sx)).2 i _ (List.getElem?_eq_getElem hil)
        rw [List.getElem?_map, e1] at ex
        cases ex
        walk_at "rx"
        refine ⟨rfl, ?_⟩
        walk_at "rx"
        refine ⟨b, ls[i], rfl, e2, ok.2.2 _ (List.getElem_mem hil), fun H4 x S4 hx => ?_⟩
        refine qc _ _ S4 ⟨cs ++ [x], by rw [List.map_append]; rfl, ?_⟩
        rw [List.take_succ, List.getElem?_eq_getElem hil]
        exact (tc.ki (Ki.same S4)).snoc hx
      intro H2 D acc S2 nD hD pp
      obtain ⟨bs, rfl, tc⟩ := pp
      rw [List.length_map, la, List.take_length] at tc
      walk_at "rx"
      exact ⟨D, bs, ls, rfl, hD, tc, ok.1, n4, fun H3 x S3 hx => q H3 x (S2.trans S3) hx⟩
def sp_law_ended (K : PySem.W.Frag) : Sp := fun vs H Q _ => ∃ (a b : Addr) (r : Kd) (M : List Addr) (st : List Nat) (len : Nat), vs = [.ref a, .ref b, .int (len : Int)] ∧ KSpc M H a r ∧ TAt r H b st ∧ VK r len st ∧ Q (.bl (endK r st len)) H
set_option maxHeartbeats 4000000 in
theorem ok_law_ended (T : Top K mg) {f : Addr} {fd : FuncData} (D : Def K mg "_law_ended" s_law_ended ["spec", "state", "length"] f fd) : FnOk P w K mg base CX0 1 f fd ["spec", "state", "length"] (sp_law_ended K) := by
  refine D.F.ok sc_law_ended (fun vs H Q E h => ?_) (fun cdv A outer s H vs Q E hr h => ?_)
  · obtain ⟨a, b, r, M, st, len, rfl, _⟩ := h
    rfl
  · obtain ⟨a, b, r, M, st, len, rfl, hs, hb, v, q⟩ := h
    match r, hs, hb, v, q with
    | .w c, hs, hb, v, q =>
      have hs : H a = some (.tup [.str "workers", .int (c : Int)]) := hs
      refine ⟨_, (pss_cons (ps_if (pt_cmpR op_eq (pe_ix (r := rIxT K) ix_tup (pv 0) pe_int (fun _ _ => rfl)) pe_str (nomark _)) (pss_one (ps_ret (pe_cmpR (r := rIn K false) op_in_seq (pv 2) (pv 1) (by rfl)))) pss_nil)
    (pss_one (ps_ret (pe_cmpR op_eq (pe_ix (r := rIxT K) ix_tup (pv 1) pe_int (fun _ _ => rfl)) (pv 2) (nomark _))))), ?_⟩
      walk_at "rx"
      show if true = true then _ else _
      walk_at "rx"
      refine rd_inG (show GT H b (niz st) from hb) rfl (nvs_flat _) ?_
      show Q (.bl (inV (.int (len : Int)) (nvs st))) H
      rw [nvs_in]
      exact q
    | .r x, hs, hb, v, q =>
      obtain ⟨nm, rest, hx, ne⟩ : ∃ nm rest, H a = some (.tup (.str nm :: rest)) ∧ nm ≠ "workers" := by
        cases x with
        | lag n => exact ⟨_, _, hs, by decide⟩
        | eit ls => obtain ⟨l, as, hs, _⟩ := hs; exact ⟨_, _, hs, by decide⟩
        | leaf l =>
          cases l with
          | once => exact ⟨_, _, hs, by decide⟩
          | top => exact ⟨_, _, hs, by decide⟩
          | mark => exact ⟨_, _, hs, by decide⟩
          | pts nw ns => cases nw <;> (obtain ⟨t, hs, _⟩ := hs; exact ⟨_, _, hs, by decide⟩)
          | late o =>
            cases o with
            | none => exact ⟨_, _, hs, by decide⟩
            | some ns => obtain ⟨t, hs, _⟩ := hs; exact ⟨_, _, hs, by decide⟩
      obtain ⟨p, r2, rfl⟩ : ∃ p r2, st = p :: r2 := by
        cases x with
        | lag n => obtain ⟨p, h, rfl, _⟩ := v; exact ⟨_, _, rfl⟩
        | leaf l => obtain ⟨p, rfl, _⟩ := v; exact ⟨_, _, rfl⟩
        | eit l => obtain ⟨p, rfl, _⟩ := v; exact ⟨_, _, rfl⟩
      have hb2 : H b = some (.tup (V.int (p : Int) :: nvs r2)) := hb
      refine ⟨_, (pss_cons (ps_if (pt_cmpR op_eq (pe_ix (r := rIxT K) ix_tup (pv 0) pe_int (fun _ _ => rfl)) pe_str (nomark _)) (pss_one (ps_ret (pe_cmpR (r := rIn K false) op_in_seq (pv 2) (pv 1) (by rfl)))) pss_nil)
    (pss_one (ps_ret (pe_cmpR op_eq (pe_ix (r := rIxT K) ix_tup (pv 1) pe_int (fun _ _ => rfl)) (pv 2) (nomark _))))), ?_⟩
      walk_at "rx"
      have at0 : ∀ (x : V) (xs : List V), atI (x :: xs) 0 = some x := fun x xs => atI_get (xs := x :: xs) (j := 0) (by simp)
      refine rd_ixT hx (at0 _ _) ?_
      walk_at "rx"
      rw [decide_eq_false (show ¬ V.str nm = V.str "workers" from fun e => ne (by cases e; rfl))]
      show if false = true then _ else _
      walk_at "rx"
      refine rd_ixT hb2 (at0 _ _) ?_
      walk_at "rx"
      have e2 : decide (V.int (p : Int) = V.int (len : Int)) = endK (.r x) (p :: r2) len := by
        show _ = decide (p = len)
        by_cases z : p = len
        · rw [decide_eq_true z, decide_eq_true (by rw [z])]
        · rw [decide_eq_false z, decide_eq_false (fun e => z (by injection e; omega))]
      rw [e2]
      exact q
def sp_law_size (_K : PySem.W.Frag) : Sp := fun vs H Q _ => ∃ (a : Addr) (r : Kd) (M : List Addr), vs = [.ref a] ∧ KSpc M H a r ∧ Q (.int (sizeK r : Nat)) H
set_option maxHeartbeats 4000000 in
theorem ok_law_size (T : Top K mg) {f : Addr} {fd : FuncData} (D : Def K mg "_law_size" s_law_size ["spec"] f fd) : FnOk P w K mg base CX0 1 f fd ["spec"] (sp_law_size K) := by
  refine D.F.ok sc_law_size (fun vs H Q E h => ?_) (fun cdv A outer s H vs Q E hr h => ?_)
  · obtain ⟨a, r, M, rfl, _⟩ := h
    rfl
  · obtain ⟨a, r, M, rfl, hs, q⟩ := h
    refine ⟨_, (pss_cons (ps_if (pt_cmpR op_eq (pe_ix (r := rIxT K) ix_tup (pv 0) pe_int (fun _ _ => rfl)) pe_str (nomark _)) (pss_one (ps_ret pe_int)) pss_nil)
    (pss_cons (ps_if (pt_cmpR op_eq (pe_ix (r := rIxT K) ix_tup (pv 0) pe_int (fun _ _ => rfl)) pe_str (nomark _)) (pss_one (ps_ret (pe_ix (r := rIxT K) ix_tup (pv 0) pe_int (fun _ _ => rfl)))) pss_nil)
    (pss_one (ps_ret pe_int)))), ?_⟩
    match r, hs, q with
    | .r (.lag n), hs, q =>
      have hs : H a = some (.tup [.str "lag", .int (n : Int)]) := hs
      walk_at "rx"
      show if true = true then _ else _
      walk_at "rx"
      exact q
    | .w c, hs, q =>
      have hs : H a = some (.tup [.str "workers", .int (c : Int)]) := hs
      walk_at "rx"
      show if false = true then _ else _
      walk_at "rx"
      show if true = true then _ else _
      walk_at "rx"
      exact q
    | .r (.eit ls), hs, q =>
      obtain ⟨l, as, hs, _⟩ := hs
      walk_at "rx"
      show if false = true then _ else _
      walk_at "rx"
      show if false = true then _ else _
      walk_at "rx"
      exact q
    | .r (.leaf l), hs, q =>
      match l, hs, q with
      | .once, hs, q =>
        have hs : H a = some (.tup [.str "once"]) := hs
        walk_at "rx"
        show if false = true then _ else _
        walk_at "rx"
        show if false = true then _ else _
        walk_at "rx"
        exact q
      | .top, hs, q =>
        have hs : H a = some (.tup [.str "top"]) := hs
        walk_at "rx"
        show if false = true then _ else _
        walk_at "rx"
        show if false = true then _ else _
        walk_at "rx"
        exact q
      | .mark, hs, q =>
        have hs : H a = some (.tup [.str "mark"]) := hs
        walk_at "rx"
        show if false = true then _ else _
        walk_at "rx"
        show if false = true then _ else _
        walk_at "rx"
        exact q
      | .pts true ns, hs, q =>
        obtain ⟨t, hs, ht⟩ := hs
        walk_at "rx"
        show if false = true then _ else _
        walk_at "rx"
        show if false = true then _ else _
        walk_at "rx"
        exact q
      | .pts false ns, hs, q =>
        obtain ⟨t, hs, ht⟩ := hs
        walk_at "rx"
        show if false = true then _ else _
        walk_at "rx"
        show if false = true then _ else _
        walk_at "rx"
        exact q
      | .late none, hs, q =>
        have hs : H a = some (.tup [.str "late", .non]) := hs
        walk_at "rx"
        show if false = true then _ else _
        walk_at "rx"
        show if false = true then _ else _
        walk_at "rx"
        exact q
      | .late (some ns), hs, q =>
        obtain ⟨t, hs, ht⟩ := hs
        walk_at "rx"
        show if false = true then _ else _
        walk_at "rx"
        show if false = true then _ else _
        walk_at "rx"
        exact q
def sp_law_is_truth (_K : PySem.W.Frag) : Sp := fun vs H Q _ => ∃ (a : Bool), vs = [.bl a, .bl a] ∧ Q (.bl true) H
set_option maxHeartbeats 4000000 in
theorem ok_law_is_truth (T : Top K mg) {f : Addr} {fd : FuncData} (D : Def K mg "_law_is_truth" s_law_is_truth ["told", "due"] f fd) : FnOk P w K mg base CX0 1 f fd ["told", "due"] (sp_law_is_truth K) := by
  refine D.F.ok sc_law_is_truth (fun vs H Q E h => ?_) (fun cdv A outer s H vs Q E hr h => ?_)
  · obtain ⟨a, rfl, _⟩ := h
    rfl
  · obtain ⟨a, rfl, q⟩ := h
    refine ⟨_, (pss_one (ps_ret (pe_and (pe_callB (r := rIsi K) call_isi (by rfl) T.b_isinstance (by decide +kernel) (pa_cons (pv 0) (pa_cons (pe_bltn (v := .ty "bool") (by rfl) T.b_bool (by decide +kernel) rfl) pa_nil))) (pe_one (pe_cmpR op_eq (pv 0) (pv 1) (nomark _)))))), ?_⟩
    walk_at "rx"
    rw [decide_eq_true (rfl : V.bl a = V.bl a)]
    exact q
def sp_law_is_integer (_K : PySem.W.Frag) : Sp := fun vs H Q _ => ∃ i : Int, vs = [.int i] ∧ Q (.bl true) H
set_option maxHeartbeats 4000000 in
theorem ok_law_is_integer (T : Top K mg) {f : Addr} {fd : FuncData} (D : Def K mg "_law_is_integer" s_law_is_integer ["told"] f fd) : FnOk P w K mg base CX0 1 f fd ["told"] (sp_law_is_integer K) := by
  refine D.F.ok sc_law_is_integer (fun vs H Q E h => ?_) (fun cdv A outer s H vs Q E hr h => ?_)
  · obtain ⟨i, rfl, _⟩ := h
    rfl
  · obtain ⟨i, rfl, q⟩ := h
    refine ⟨_, (pss_one (ps_ret (pe_and (pe_callB (r := rIsi K) call_isi (by rfl) T.b_isinstance (by decide +kernel) (pa_cons (pv 0) (pa_cons (pe_bltn (v := .ty "int") (by rfl) T.b_int (by decide +kernel) rfl) pa_nil))) (pe_one (pe_not (pe_callB (r := rIsi K) call_isi (by rfl) T.b_isinstance (by decide +kernel) (pa_cons (pv 0) (pa_cons (pe_bltn (v := .ty "bool") (by rfl) T.b_bool (by decide +kernel) rfl) pa_nil)))))))), ?_⟩
    walk_at "rx"
    exact q
def sp_law_are_steps (K : PySem.W.Frag) : Sp := fun vs H Q _ => ∃ (l : Addr) (ps : List Addr) (r : Kd) (ss : List Stp) (m : Nat), vs = [.ref l, .int (m : Int)] ∧ H l = some (.lst (ps.map V.ref)) ∧ EsAt r H ps ss ∧ (∀ s ∈ ss, s.2.length = m) ∧ (∀ s ∈ ss, -1 ≤ s.1) ∧ Q (.bl true) H
set_option maxHeartbeats 4000000 in
theorem ok_law_are_steps (T : Top K mg) {f : Addr} {fd : FuncData} (D : Def K mg "_law_are_steps" s_law_are_steps ["told", "size"] f fd) : FnOk P w K mg base CX0 2 f fd ["told", "size"] (sp_law_are_steps K) := by
  obtain ⟨f_law_is_integer, fd_law_is_integer, D_law_is_integer⟩ := T.d__law_is_integer
  have G_law_is_integer : FnOk P w K mg base CX0 1 f_law_is_integer fd_law_is_integer ["told"] (sp_law_is_integer K) := ok_law_is_integer T D_law_is_integer
  refine D.F.ok sc_law_are_steps (fun vs H Q E h => ?_) (fun cdv A outer s H vs Q E hr h => ?_)
  · obtain ⟨l, ps, r, ss, m, rfl, _⟩ := h
    rfl
  · obtain ⟨l, ps, r, ss, m, rfl, hl, tp, lm, lo, q⟩ := h
    have lp := tp.1
    refine ⟨_, (pss_cons (ps_if (pt_not (pt_val (pe_callB (r := rIsi K) call_isi (by rfl) T.b_isinstance (by decide +kernel) (pa_cons (pv 0) (pa_cons (pe_bltn (v := .ty "list") (by rfl) T.b_list (by decide +kernel) rfl) pa_nil))))) (pss_one (ps_ret pe_bl)) pss_nil)
    (pss_cons (ps_for PassesOwn.never rfl (pi_list (pv 0)) (pg_name (i := 2) sc_law_are_steps.nd rfl (.inl rfl)) (pss_cons (ps_if (PW.pt (pw_or (pt_not (pt_val (pe_callB (r := rIsi K) call_isi (by rfl) T.b_isinstance (by decide +kernel) (pa_cons (pv 2) (pa_cons (pe_bltn (v := .ty "tuple") (by rfl) T.b_tuple (by decide +kernel) rfl) pa_nil))))) (pw_or (pt_cmpR op_ne (pe_callB (r := rLenQ K) call_lenQ (by rfl) T.b_len PySem.boot_len (pa_cons (pv 2) pa_nil)) pe_int (nomark _)) (pw_or1 (pt_not (pt_val (pe_call G_law_is_integer hr (by rfl) D_law_is_integer.g D_law_is_integer.F.kp D_law_is_integer.b .nil pass0 (pa_cons (pe_ix (r := rIxT K) ix_tup (pv 2) pe_int (fun _ _ => rfl)) pa_nil)))))))) (pss_one (ps_ret pe_bl)) pss_nil)
    (pss_cons (ps_if (PW.pt (pw_or (pt_cmpR op_lt (pe_ix (r := rIxT K) ix_tup (pv 2) pe_int (fun _ _ => rfl)) (pe_un un_neg pe_int) (nomark _)) (pw_or (pt_not (pt_val (pe_callB (r := rIsi K) call_isi (by rfl) T.b_isinstance (by decide +kernel) (pa_cons (pe_ix (r := rIxT K) ix_tup (pv 2) pe_int (fun _ _ => rfl)) (pa_cons (pe_bltn (v := .ty "tuple") (by rfl) T.b_tuple (by decide +kernel) rfl) pa_nil))))) (pw_or1 (pt_cmpR op_ne (pe_callB (r := rLenQ K) call_lenQ (by rfl) T.b_len PySem.boot_len (pa_cons (pe_ix (r := rIxT K) ix_tup (pv 2) pe_int (fun _ _ => rfl)) pa_nil)) (pv 1) (nomark _)))))) (pss_one (ps_ret pe_bl)) pss_nil)
    (pss_one (ps_for PassesOwn.never rfl (pi_tup (pe_ix (r := rIxT K) ix_tup (pv 2) pe_int (fun _ _ => rfl))) (pg_name (i := 3) sc_law_are_steps.nd rfl (.inl rfl)) (pss_one (ps_if (pt_not (pt_val (pe_call G_law_is_integer hr (by rfl) D_law_is_integer.g D_law_is_integer.F.kp D_law_is_integer.b .nil pass0 (pa_cons (pv 3) pa_nil)))) (pss_one (ps_ret pe_bl)) pss_nil)))))))
    (pss_one (ps_ret pe_bl)))), ?_⟩
    walk_at "rx"
    refine fr_it (walk_list (xs := ps.map V.ref)) (fun i σ H' => ∃ y2 y3, σ = [some (.ref l), some (.int (m : Int)), y2, y3] ∧ H' = H) ⟨none, none, rfl, rfl⟩ (fun i σ H' _ p => by obtain ⟨_, _, _, rfl⟩ := p; exact SqL.of hl) ?_ ?_
    · rintro i x σ H2 H3 hi ⟨y2, y3, rfl, eH⟩ ⟨eH3, ex⟩
      have e33 : H3 = H := eH3.trans eH
      have tp3 : EsAt r H3 ps ss := by rw [e33]; exact tp
      rw [List.length_map] at hi
      have hi2 : i < ss.length := by omega
      obtain ⟨p, e1, e2⟩ := tp3.at hi2
      rw [List.getElem?_map, e1] at ex
      cases ex
      obtain ⟨u, hp, hu⟩ := e2
      have ll := lm _ (List.getElem_mem hi2)
      have l1 := lo _ (List.getElem_mem hi2)
      have sq := hu.sq (K := K)
      have nlt : ¬ ss[i].1 < -1 := by omega
      walk_at "rx"
      show if false = true then _ else _
      walk_at "rx"
      refine ⟨_, rfl, ?_⟩
      refine ⟨true, rfl, ?_⟩
      show if false = true then _ else _
      walk_at "rx"
      cases r with
      | r x =>
        have hu : H3 u = some (.tup (nvs ss[i].2)) := hu
        walk_at "rx"
        rw [nvs_len, ll, decide_eq_true (rfl : V.int (m : Int) = V.int (m : Int))]
        walk_at "rx"
        refine fr_it (walk_tup (xs := nvs ss[i].2)) (fun j σ H' => ∃ y3, σ = [some (.ref l), some (.int (m : Int)), some (.ref p), y3] ∧ H' = H3) ⟨_, rfl, rfl⟩ (fun j σ H' _ q => by obtain ⟨_, _, rfl⟩ := q; exact sq) ?_ ?_
        · rintro j x σ H4 H5 hj ⟨y3, rfl, e4⟩ ⟨e5, ex⟩
          rw [nvs_len] at hj
          rw [nvs_get (List.getElem?_eq_getElem hj)] at ex
          cases ex
          walk_at "rx"
          refine ⟨_, rfl, ?_⟩
          refine ⟨true, rfl, ?_⟩
          show if false = true then _ else _
          walk_at "rx"
          exact ⟨_, rfl, e5.trans e4⟩
        · rintro σ H4 ⟨y3, rfl, e4⟩
          exact ⟨_, _, rfl, e4.trans e33⟩
      | w c =>
        have hu : GT H3 u (niz ss[i].2) := hu
        obtain ⟨o, ho, _⟩ := id hu
        refine ⟨_, _, _, _, true, rfl, .ty "tuple", .fTuple ho, kit_ty rfl, ?_⟩
        refine ⟨true, rfl, ?_⟩
        show if false = true then _ else _
        walk_at "rx"
        first
          | rw [nvs_len, ll, decide_eq_true (rfl : V.int (m : Int) = V.int (m : Int))]
          | rw [List.length_map, niz_len, ll, decide_eq_true (rfl : V.int (m : Int) = V.int (m : Int))]
          | rw [niz_len, ll, decide_eq_true (rfl : V.int (m : Int) = V.int (m : Int))]
        walk_at "rx"
        refine rd_ItG hu ?_
        refine fr_it (walk_tup (xs := nvs ss[i].2)) (fun j σ H' => ∃ y3, σ = [some (.ref l), some (.int (m : Int)), some (.ref p), y3] ∧ H' = H3) ⟨_, rfl, rfl⟩ (fun j σ H' _ q => by obtain ⟨_, _, rfl⟩ := q; exact sq) ?_ ?_
        · rintro j x σ H4 H5 hj ⟨y3, rfl, e4⟩ ⟨e5, ex⟩
          rw [nvs_len] at hj
          rw [nvs_get (List.getElem?_eq_getElem hj)] at ex
          cases ex
          walk_at "rx"
          refine ⟨_, rfl, ?_⟩
          refine ⟨true, rfl, ?_⟩
          show if false = true then _ else _
          walk_at "rx"
          exact ⟨_, rfl, e5.trans e4⟩
        · rintro σ H4 ⟨y3, rfl, e4⟩
          exact ⟨_, _, rfl, e4.trans e33⟩
    · rintro σ H2 ⟨y2, y3, rfl, rfl⟩
      walk_at "rx"
      exact q
def spRule_first_state (_K : PySem.W.Frag) : Sp := fun vs H Q _ => ∃ (a : Addr), vs = [.ref a] ∧ ∀ H' l, Same H H' → H' l = some (.tup (nvs [0])) → Q (.ref l) H'
set_option maxHeartbeats 4000000 in
theorem okRule_first_state (T : Top K mg) {f : Addr} {fd : FuncData} {C : Addr} (D : MDef K C "first_state" "Rule.first_state" sRule_first_state ["self"] f fd) : FnOk P w K mg base CX0 1 f fd ["self"] (spRule_first_state K) := by
  refine D.F.ok scRule_first_state (fun vs H Q E h => ?_) (fun cdv A outer s H vs Q E hr h => ?_)
  · obtain ⟨a, rfl, _⟩ := h
    rfl
  · obtain ⟨a, rfl, q⟩ := h
    refine ⟨_, (pss_one (ps_ret (pe_tup (pa_cons pe_int pa_nil)))), ?_⟩
    walk_at "rx"
    exact rd_newQ (by simp) fun H1 l S1 n1 h1 => q H1 l S1 h1
def spLagging_first_state (_K : PySem.W.Frag) : Sp := fun vs H Q _ => ∃ (a : Addr), vs = [.ref a] ∧ ∀ H' l, Same H H' → H' l = some (.tup (nvs [0, 0])) → Q (.ref l) H'
set_option maxHeartbeats 4000000 in
theorem okLagging_first_state (T : Top K mg) {f : Addr} {fd : FuncData} {C : Addr} (D : MDef K C "first_state" "Lagging.first_state" sLagging_first_state ["self"] f fd) : FnOk P w K mg base CX0 1 f fd ["self"] (spLagging_first_state K) := by
  refine D.F.ok scLagging_first_state (fun vs H Q E h => ?_) (fun cdv A outer s H vs Q E hr h => ?_)
  · obtain ⟨a, rfl, _⟩ := h
    rfl
  · obtain ⟨a, rfl, q⟩ := h
    refine ⟨_, (pss_one (ps_ret (pe_tup (pa_cons pe_int (pa_cons pe_int pa_nil))))), ?_⟩
    walk_at "rx"
    exact rd_newQ (by simp) fun H1 l S1 n1 h1 => q H1 l S1 h1
def spWorkers_first_state (K : PySem.W.Frag) : Sp := fun vs H Q _ => ∃ (a dx : Addr) (n : Nat), vs = [.ref a] ∧ H a = some (.ins (atTop K "Workers") dx [("count", .int (n : Int))]) ∧ 1 ≤ n ∧ n ≤ 3 ∧ ∀ H' l, Same H H' → GT H' l (niz (List.replicate n 0)) → Q (.ref l) H'
set_option maxHeartbeats 4000000 in
theorem okWorkers_first_state (T : Top K mg) {f : Addr} {fd : FuncData} {C : Addr} (D : MDef K C "first_state" "Workers.first_state" sWorkers_first_state ["self"] f fd) : FnOk P w K mg base CX0 1 f fd ["self"] (spWorkers_first_state K) := by
  refine D.F.ok scWorkers_first_state (fun vs H Q E h => ?_) (fun cdv A outer s H vs Q E hr h => ?_)
  · obtain ⟨a, dx, n, rfl, _⟩ := h
    rfl
  · obtain ⟨a, dx, n, rfl, ha, l1, l, q⟩ := h
    refine ⟨_, (pss_one (ps_ret (pe_op (r := rRepO K) op_repO (pe_tupG (pa_cons pe_int pa_nil)) (pe_fldK (K := K) rfl (pv 0) rfl)))), ?_⟩
    walk_at "rx"
    refine rd_newS [0] rfl fun H1 p S1 n1 h1 => ?_
    walk_at "rx"
    refine rd_Fd (S1 _ _ ha) T.c_Workers.cls T.n_Workers_count (by rfl) ?_
    exact rd_rep0 h1 l1 (by omega) fun H2 l S2 h2 => q H2 l (S1.trans S2) h2
def sp_ahead (_K : PySem.W.Frag) : Sp := fun vs H Q _ => ∃ (b : Addr) (p len : Nat), vs = [.ref b, .int (len : Int)] ∧ H b = some (.tup (nvs [p])) ∧ ∀ H' l ps, Same H H' → H l = none → H' l = some (.lst (ps.map V.ref)) → SsAt H' ps (ahd p len) → Q (.ref l) H'
set_option maxHeartbeats 4000000 in
theorem ok_ahead (T : Top K mg) {f : Addr} {fd : FuncData} (D : Def K mg "_ahead" s_ahead ["state", "length"] f fd) : FnOk P w K mg base CX0 1 f fd ["state", "length"] (sp_ahead K) := by
  refine D.F.ok sc_ahead (fun vs H Q E h => ?_) (fun cdv A outer s H vs Q E hr h => ?_)
  · obtain ⟨b, p, len, rfl, _⟩ := h
    rfl
  · obtain ⟨b, p, len, rfl, hb, q⟩ := h
    have hb : H b = some (.tup [V.int (p : Int)]) := hb
    refine ⟨_, (pss_cons (ps_set (i := 2) sc_ahead.nd rfl (.inl rfl) (pe_ix (r := rIxT K) ix_tup (pv 0) pe_int (fun _ _ => rfl)))
    (pss_one (ps_ret (pe_ifExp (pt_cmpR op_lt (pv 2) (pv 1) (nomark _)) (pe_lst (pa_cons (pe_tup (pa_cons (pv 2) (pa_cons (pe_tup (pa_cons (pe_op op_add (pv 2) pe_int) pa_nil)) pa_nil))) pa_nil)) (pe_lst pa_nil))))), ?_⟩
    walk_at "rx"
    by_cases z : p < len
    · rw [decide_eq_true (show (p : Int) < (len : Int) by omega)]
      walk_at "rx"
      refine rd_newQ (by simp) fun H1 p1 S1 n1 h1 => ?_
      walk_at "rx"
      refine rd_newQ (by simp) fun H2 p2 S2 n2 h2 => ?_
      walk_at "rx"
      refine rd_newQ (by simp) fun H3 l S3 nl hl => ?_
      refine q H3 l [p2] ((S1.trans S2).trans S3) ((S1.trans S2).free nl) hl ?_
      unfold ahd
      rw [if_pos z]
      exact .one ⟨p1, S3 _ _ h2, S3 _ _ (S2 _ _ h1)⟩
    · rw [decide_eq_false (show ¬ (p : Int) < (len : Int) by omega)]
      walk_at "rx"
      refine rd_newQ (Nat.zero_le _) fun H1 l S1 nl hl => ?_
      refine q H1 l [] S1 nl hl ?_
      unfold ahd
      rw [if_neg z]
      exact .nil
def spRule_steps (_K : PySem.W.Frag) : Sp := fun vs H Q _ => ∃ (a b : Addr) (p len : Nat), vs = [.ref a, .ref b, .int (len : Int)] ∧ H b = some (.tup (nvs [p])) ∧ ∀ H' l ps, Same H H' → H l = none → H' l = some (.lst (ps.map V.ref)) → SsAt H' ps (ahd p len) → Q (.ref l) H'
set_option maxHeartbeats 4000000 in
theorem okRule_steps (T : Top K mg) {f : Addr} {fd : FuncData} {C : Addr} (D : MDef K C "steps" "Rule.steps" sRule_steps ["self", "state", "length"] f fd) : FnOk P w K mg base CX0 2 f fd ["self", "state", "length"] (spRule_steps K) := by
  obtain ⟨f_ahead, fd_ahead, D_ahead⟩ := T.d__ahead
  have G_ahead : FnOk P w K mg base CX0 1 f_ahead fd_ahead ["state", "length"] (sp_ahead K) := ok_ahead T D_ahead
  refine D.F.ok scRule_steps (fun vs H Q E h => ?_) (fun cdv A outer s H vs Q E hr h => ?_)
  · obtain ⟨a, b, p, len, rfl, _⟩ := h
    rfl
  · obtain ⟨a, b, p, len, rfl, hb, q⟩ := h
    refine ⟨_, (pss_one (ps_ret (pe_call G_ahead hr (by rfl) D_ahead.g D_ahead.F.kp D_ahead.b .nil pass0 (pa_cons (pv 1) (pa_cons (pv 2) pa_nil))))), ?_⟩
    walk_at "rx"
    exact ⟨b, p, len, rfl, hb, q⟩
def spFromTop_further (K : PySem.W.Frag) : Sp := fun vs H Q _ => ∃ (a : Addr) (p : Nat), vs = [.ref a, .int (p : Int)] ∧ RAt K H a (.leaf .top) ∧ ROk (.leaf .top) ∧ p ≤ 60 ∧ ∀ H' l ps, Same H H' → H l = none → H' l = some (.lst (ps.map V.ref)) → SsAt H' ps (furR (.leaf .top) p) → Q (.ref l) H'
set_option maxHeartbeats 4000000 in
theorem okFromTop_further (T : Top K mg) {f : Addr} {fd : FuncData} {C : Addr} (D : MDef K C "further" "FromTop.further" sFromTop_further ["self", "position"] f fd) : FnOk P w K mg base CX0 1 f fd ["self", "position"] (spFromTop_further K) := by
  refine D.F.ok scFromTop_further (fun vs H Q E h => ?_) (fun cdv A outer s H vs Q E hr h => ?_)
  · obtain ⟨a, p, rfl, _⟩ := h
    rfl
  · obtain ⟨a, p, rfl, hr_, ok, p60, q⟩ := h
    obtain ⟨dx, hi⟩ := hr_
    obtain ⟨u, oR⟩ := T.o_FromTop_RESTART
    have cls := T.c_FromTop.cls
    refine ⟨_, (pss_one (ps_ret (pe_ifExp (pt_cmpR op_gt (pv 1) pe_int (nomark _)) (pe_lst (pa_cons (pe_tup (pa_cons (pe_conK (K := K) rfl (pv 0) rfl) (pa_cons (pe_tup (pa_cons pe_int pa_nil)) pa_nil))) pa_nil)) (pe_lst pa_nil)))), ?_⟩
    walk_at "rx"
    by_cases z : 0 < p
    · rw [decide_eq_true (show (p : Int) > 0 by omega)]
      walk_at "rx"
      refine rd_Cn hi cls oR (by rfl) ?_
      walk_at "rx"
      refine rd_newQ (by simp) fun H1 p1 S1 n1 h1 => ?_
      walk_at "rx"
      refine rd_newQ (by simp) fun H2 p2 S2 n2 h2 => ?_
      walk_at "rx"
      refine rd_newQ (by simp) fun H3 l S3 nl hl => ?_
      refine q H3 l [p2] ((S1.trans S2).trans S3) ((S1.trans S2).free nl) hl ?_
      show SsAt _ _ (if 0 < p then [((-1 : Int), [0])] else [])
      rw [if_pos z]
      exact .one ⟨p1, S3 _ _ h2, S3 _ _ (S2 _ _ h1)⟩
    · rw [decide_eq_false (show ¬ (p : Int) > 0 by omega)]
      walk_at "rx"
      refine rd_newQ (Nat.zero_le _) fun H1 l S1 nl hl => ?_
      refine q H1 l [] S1 nl hl ?_
      show SsAt _ _ (if 0 < p then [((-1 : Int), [0])] else [])
      rw [if_neg z]
      exact .nil
def spFromTop_steps (K : PySem.W.Frag) : Sp := fun vs H Q _ => ∃ (a b : Addr) (p len : Nat), vs = [.ref a, .ref b, .int (len : Int)] ∧ RAt K H a (.leaf .top) ∧ ROk (.leaf .top) ∧ H b = some (.tup (nvs [p])) ∧ p ≤ 60 ∧ ∀ H' l ps, Same H H' → H l = none → H' l = some (.lst (ps.map V.ref)) → SsAt H' ps (ahd p len ++ furR (.leaf .top) p) → Q (.ref l) H'
set_option maxHeartbeats 4000000 in
theorem okFromTop_steps (T : Top K mg) {f : Addr} {fd : FuncData} {C : Addr} (D : MDef K C "steps" "FromTop.steps" sFromTop_steps ["self", "state", "length"] f fd) : FnOk P w K mg base CX0 2 f fd ["self", "state", "length"] (spFromTop_steps K) := by
  obtain ⟨f_ahead, fd_ahead, D_ahead⟩ := T.d__ahead
  have G_ahead : FnOk P w K mg base CX0 1 f_ahead fd_ahead ["state", "length"] (sp_ahead K) := ok_ahead T D_ahead
  obtain ⟨fFromTop_further, fdFromTop_further, DFromTop_further⟩ := T.d_FromTop_further
  have GFromTop_further : FnOk P w K mg base CX0 1 fFromTop_further fdFromTop_further ["self", "position"] (spFromTop_further K) := okFromTop_further T DFromTop_further
  refine D.F.ok scFromTop_steps (fun vs H Q E h => ?_) (fun cdv A outer s H vs Q E hr h => ?_)
  · obtain ⟨a, b, p, len, rfl, _⟩ := h
    rfl
  · obtain ⟨a, b, p, len, rfl, hr_, ok, hb, p60, q⟩ := h
    have hb' : H b = some (.tup [V.int (p : Int)]) := hb
    have lf := furR_len ok p60
    have la := ahd_len p len
    refine ⟨_, (pss_one (ps_ret (pe_op op_cat (pe_call G_ahead hr (by rfl) D_ahead.g D_ahead.F.kp D_ahead.b .nil pass0 (pa_cons (pv 1) (pa_cons (pv 2) pa_nil))) (pe_meth (pv 0) T.c_FromTop.cls DFromTop_further.m GFromTop_further (hr.mono (by decide)) DFromTop_further.b .nil pass0 (pa_cons (pe_ix (r := rIxT K) ix_tup (pv 1) pe_int (fun _ _ => rfl)) pa_nil))))), ?_⟩
    walk_at "rx"
    refine ⟨b, p, len, rfl, hb, fun H1 l1 ps1 S1 n1 h1 t1 => ?_⟩
    have hr1 := hr_.ki (Ki.same S1)
    have hb1 := S1 _ _ hb'
    have lt1 := t1.1
    walk_at "rx"
    have hr2 := hr1
    obtain ⟨dx, hi⟩ := hr2
    refine rd_Mt hi rfl ?_
    walk_at "rx"
    refine ⟨a, p, rfl, hr1, ok, p60, fun H2 l2 ps2 S2 n2 h2 t2 => ?_⟩
    have lt2 := t2.1
    refine rd_catLN (S2 _ _ h1) h2 (by rw [List.length_map, List.length_map, lt1, lt2]; have := lf; omega) ?_
    refine rd_newL fun H3 l S3 nl hl => ?_
    exact q H3 l (ps1 ++ ps2) ((S1.trans S2).trans S3) ((S1.trans S2).free nl) (by rw [hl, List.map_append]) (((t1.same S2).app t2).same S3)
def spFromMark_further (K : PySem.W.Frag) : Sp := fun vs H Q _ => ∃ (a : Addr) (p : Nat), vs = [.ref a, .int (p : Int)] ∧ RAt K H a (.leaf .mark) ∧ ROk (.leaf .mark) ∧ p ≤ 60 ∧ ∀ H' l ps, Same H H' → H l = none → H' l = some (.lst (ps.map V.ref)) → SsAt H' ps (furR (.leaf .mark) p) → Q (.ref l) H'
set_option maxHeartbeats 4000000 in
theorem okFromMark_further (T : Top K mg) {f : Addr} {fd : FuncData} {C : Addr} (D : MDef K C "further" "FromMark.further" sFromMark_further ["self", "position"] f fd) : FnOk P w K mg base CX0 1 f fd ["self", "position"] (spFromMark_further K) := by
  refine D.F.ok scFromMark_further (fun vs H Q E h => ?_) (fun cdv A outer s H vs Q E hr h => ?_)
  · obtain ⟨a, p, rfl, _⟩ := h
    rfl
  · obtain ⟨a, p, rfl, hr_, ok, p60, q⟩ := h
    obtain ⟨dx, hi⟩ := hr_
    obtain ⟨u, oR⟩ := T.o_FromMark_RESTART
    have cls := T.c_FromMark.cls
    refine ⟨_, (pss_one (ps_ret (pe_lc (own := [("mark", 2)]) (g := gName 2) (tt := tYes) rfl scFromMark_further.nd (pi_range1 (by rfl) T.b_range (pa_cons (pv 1) pa_nil))
      (blkOk_by (own := [("mark", 2)]) (N := ["self", "position", "mark"]) (sc := defScope sFromMark_further) (by decide +kernel)) (fun _ _ _ _ _ => (pg_name (i := 2) scFromMark_further.nd rfl (.inl rfl))) (fun _ _ _ _ _ => pts_nil)
      (fun _ _ _ _ _ => (pe_tup (pa_cons (pe_conK (K := K) rfl (pv 0) rfl) (pa_cons (pe_tup (pa_cons (pv 2) pa_nil)) pa_nil))))))), ?_⟩
    have hrp : -100000 ≤ (p : Int) ∧ (p : Int) ≤ 100000 := by omega
    walk_at "rx"
    refine lc_acc2 walk_rng (fun i acc H' => ∃ cs, acc = cs.map V.ref ∧ SsAt H' cs ((List.range i).map fun j => (-1, [j]))) ⟨[], rfl, by rw [List.range_zero]; exact .nil⟩ (fun i acc Ha Hb k pp => by obtain ⟨bs, e1, e2⟩ := pp; exact ⟨bs, e1, e2.kt k⟩) (fun i acc H' hi pp => by
      obtain ⟨cs, rfl, e2⟩ := pp
      have h1 := e2.1
      rw [List.length_map, List.length_range] at h1
      rw [List.length_map]
      omega) (fun _ _ => trivial) ?_ ?_
    · rintro i x Hx Hy acc Qc R hi2 Sx ⟨cs, rfl, tc⟩ ⟨rfl, rfl⟩ qc rc
      walk_at "rx"
      refine ⟨rfl, ?_⟩
      walk_at "rx"
      refine rd_Cn (Sx _ _ hi) cls oR (by rfl) ?_
      walk_at "rx"
      refine rd_newQ (by simp) fun H4 p4 S4 n4 h4 => ?_
      walk_at "rx"
      refine rd_newQ (by simp) fun H5 p5 S5 n5 h5 => ?_
      refine qc _ _ (S4.trans S5) ⟨cs ++ [p5], by rw [List.map_append]; rfl, ?_⟩
      rw [List.range_succ, List.map_append]
      exact (tc.same (S4.trans S5)).snoc ⟨p4, h5, S5 _ _ h4⟩
    intro H3 D acc S3 nD hD pp
    obtain ⟨cs, rfl, tc⟩ := pp
    exact q H3 D cs S3 nD hD tc
def spFromMark_steps (K : PySem.W.Frag) : Sp := fun vs H Q _ => ∃ (a b : Addr) (p len : Nat), vs = [.ref a, .ref b, .int (len : Int)] ∧ RAt K H a (.leaf .mark) ∧ ROk (.leaf .mark) ∧ H b = some (.tup (nvs [p])) ∧ p ≤ 60 ∧ ∀ H' l ps, Same H H' → H l = none → H' l = some (.lst (ps.map V.ref)) → SsAt H' ps (ahd p len ++ furR (.leaf .mark) p) → Q (.ref l) H'
set_option maxHeartbeats 4000000 in
theorem okFromMark_steps (T : Top K mg) {f : Addr} {fd : FuncData} {C : Addr} (D : MDef K C "steps" "FromMark.steps" sFromMark_steps ["self", "state", "length"] f fd) : FnOk P w K mg base CX0 2 f fd ["self", "state", "length"] (spFromMark_steps K) := by
  obtain ⟨f_ahead, fd_ahead, D_ahead⟩ := T.d__ahead
  have G_ahead : FnOk P w K mg base CX0 1 f_ahead fd_ahead ["state", "length"] (sp_ahead K) := ok_ahead T D_ahead
  obtain ⟨fFromMark_further, fdFromMark_further, DFromMark_further⟩ := T.d_FromMark_further
  have GFromMark_further : FnOk P w K mg base CX0 1 fFromMark_further fdFromMark_further ["self", "position"] (spFromMark_further K) := okFromMark_further T DFromMark_further
  refine D.F.ok scFromMark_steps (fun vs H Q E h => ?_) (fun cdv A outer s H vs Q E hr h => ?_)
  · obtain ⟨a, b, p, len, rfl, _⟩ := h
    rfl
  · obtain ⟨a, b, p, len, rfl, hr_, ok, hb, p60, q⟩ := h
    have hb' : H b = some (.tup [V.int (p : Int)]) := hb
    have lf := furR_len ok p60
    have la := ahd_len p len
    refine ⟨_, (pss_one (ps_ret (pe_op op_cat (pe_call G_ahead hr (by rfl) D_ahead.g D_ahead.F.kp D_ahead.b .nil pass0 (pa_cons (pv 1) (pa_cons (pv 2) pa_nil))) (pe_meth (pv 0) T.c_FromMark.cls DFromMark_further.m GFromMark_further (hr.mono (by decide)) DFromMark_further.b .nil pass0 (pa_cons (pe_ix (r := rIxT K) ix_tup (pv 1) pe_int (fun _ _ => rfl)) pa_nil))))), ?_⟩
    walk_at "rx"
    refine ⟨b, p, len, rfl, hb, fun H1 l1 ps1 S1 n1 h1 t1 => ?_⟩
    have hr1 := hr_.ki (Ki.same S1)
    have hb1 := S1 _ _ hb'
    have lt1 := t1.1
    walk_at "rx"
    have hr2 := hr1
    obtain ⟨dx, hi⟩ := hr2
    refine rd_Mt hi rfl ?_
    walk_at "rx"
    refine ⟨a, p, rfl, hr1, ok, p60, fun H2 l2 ps2 S2 n2 h2 t2 => ?_⟩
    have lt2 := t2.1
    refine rd_catLN (S2 _ _ h1) h2 (by rw [List.length_map, List.length_map, lt1, lt2]; have := lf; omega) ?_
    refine rd_newL fun H3 l S3 nl hl => ?_
    exact q H3 l (ps1 ++ ps2) ((S1.trans S2).trans S3) ((S1.trans S2).free nl) (by rw [hl, List.map_append]) (((t1.same S2).app t2).same S3)
def spFromPoints_further (K : PySem.W.Frag) : Sp := fun vs H Q _ => ∃ (a : Addr) (p : Nat) (nw : Bool) (ns : List Nat), vs = [.ref a, .int (p : Int)] ∧ RAt K H a (.leaf (.pts nw ns)) ∧ ROk (.leaf (.pts nw ns)) ∧ p ≤ 60 ∧ ∀ H' l ps, Same H H' → H l = none → H' l = some (.lst (ps.map V.ref)) → SsAt H' ps (furR (.leaf (.pts nw ns)) p) → Q (.ref l) H'
set_option maxHeartbeats 4000000 in
theorem okFromPoints_further (T : Top K mg) {f : Addr} {fd : FuncData} {C : Addr} (D : MDef K C "further" "FromPoints.further" sFromPoints_further ["self", "position"] f fd) : FnOk P w K mg base CX0 1 f fd ["self", "position"] (spFromPoints_further K) := by
  refine D.F.ok scFromPoints_further (fun vs H Q E h => ?_) (fun cdv A outer s H vs Q E hr h => ?_)
  · obtain ⟨a, p, nw, ns, rfl, _⟩ := h
    rfl
  · obtain ⟨a, p, nw, ns, rfl, hr_, ok, p60, q⟩ := h
    obtain ⟨dx, t0, hi, ht⟩ := hr_
    obtain ⟨u, oR⟩ := T.o_FromPoints_RESTART
    have n12 : ns.length ≤ 12 := ok.1
    have cls := T.c_FromPoints.cls
    refine ⟨_, (pss_cons (ps_setLc (i := 2) (own := [("point", 3)]) (g := gName 3) (tt := _) rfl scFromPoints_further.nd rfl rfl (sw_true rfl rfl rfl (by decide +kernel)) (pi_tup (pe_tup (pa_cons pe_int (StX.pa_star (pe_fldK (K := K) rfl (pv 0) rfl) pa_nil))))
      (blkOk_by (own := [("point", 3)]) (N := ["self", "position", "passed", "point"]) (sc := defScope sFromPoints_further) (by decide +kernel)) (fun _ _ _ _ _ => (pg_name (i := 3) scFromPoints_further.nd rfl (.inl rfl))) (fun _ _ _ _ _ => pts_one (pt_cmpR op_le (pv 3) (pv 1) (nomark _)))
      (fun _ _ _ _ _ => (pv 3)))
    (C8.pss_cut (ps_if (pt_val (pe_fldK (K := K) rfl (pv 0) rfl)) (pss_one (ps_set (i := 2) scFromPoints_further.nd rfl (.inl rfl) (pe_slice sl_list (pv 2) (po_some (pe_un un_neg pe_int)) po_none))) pss_nil)
    (pss_one (ps_ret (pe_lc (own := [("point", 3)]) (g := gName 3) (tt := _) rfl scFromPoints_further.nd (pi_list (pv 2))
      (blkOk_by (own := [("point", 3)]) (N := ["self", "position", "passed", "point"]) (sc := defScope sFromPoints_further) (by decide +kernel)) (fun _ _ _ _ _ => (pg_name (i := 3) scFromPoints_further.nd rfl (.inl rfl))) (fun _ _ _ _ _ => pts_one (pt_cmpR op_lt (pv 3) (pv 1) (nomark _)))
      (fun _ _ _ _ _ => (pe_tup (pa_cons (pe_conK (K := K) rfl (pv 0) rfl) (pa_cons (pe_tup (pa_cons (pv 3) pa_nil)) pa_nil))))))))), ?_⟩
    walk_at "rx"
    refine rd_Fd hi cls T.n_FromPoints_points (by rfl) ?_
    refine rd_StT ht ?_
    walk_at "rx"
    refine rd_newQ (by rw [List.length_cons, List.append_nil, nvs_len]; omega) fun H1 tt S1 n1 h1 => ?_
    have h1 : H1 tt = some (.tup (nvs (0 :: ns))) := by rw [h1, List.append_nil]; rfl
    walk_at "rx"
    refine lc_acc (walk_tup (xs := nvs (0 :: ns))) (fun i acc => acc = nvs (((0 :: ns).take i).filter fun g => decide (g ≤ p))) rfl (fun i acc hi e => ?_) (fun H' S => SqT.of (S _ _ h1)) ?_ ?_
    · rw [nvs_len, List.length_cons] at hi
      rw [e, nvs_len]
      have := List.length_filter_le (fun g => decide (g ≤ p)) ((0 :: ns).take i)
      rw [List.length_take] at this
      omega
    · rintro i x Hx Hy acc Qc R hi2 Sx e ⟨rfl, ex⟩ qc rc
      rw [nvs_len] at hi2
      have er : (0 :: ns)[i]? = some (0 :: ns)[i] := List.getElem?_eq_getElem hi2
      rw [nvs_get er] at ex
      cases ex
      have tk : (0 :: ns).take (i + 1) = (0 :: ns).take i ++ [(0 :: ns)[i]] := by rw [List.take_succ, er]; rfl
      generalize hg : (0 :: ns)[i] = g at tk
      walk_at "rx"
      refine ⟨rfl, ?_⟩
      walk_at "rx"
      by_cases z : g ≤ p
      · rw [decide_eq_true (show (g : Int) ≤ (p : Int) by omega)]
        walk_at "rx"
        refine qc _ _ (Same.refl _) ?_
        rw [tk, List.filter_append, List.filter_cons, if_pos (decide_eq_true z), nvs_app, e]
        rfl
      · rw [decide_eq_false (show ¬ (g : Int) ≤ (p : Int) by omega)]
        walk_at "rx"
        refine rc _ (Same.refl _) ?_
        rw [tk, List.filter_append, List.filter_cons, if_neg (by rw [decide_eq_false z]; exact Bool.false_ne_true), List.filter_nil, List.append_nil, e]
    intro H2 D acc S2 nD hD e
    rw [nvs_len, List.take_length] at e
    subst e
    have S02 := S1.trans S2
    have fl := List.length_filter_le (fun g => decide (g ≤ p)) (0 :: ns)
    rw [List.length_cons] at fl
    walk_at "rx"
    refine ⟨fun σ' H' => ∃ D2, σ' = [some (.ref a), some (.int (p : Int)), some (.ref D2), none] ∧ Same H H' ∧ H' D2 = some (.lst (nvs (psd nw ns p))), ?_, ?_⟩
    · walk_at "rx"
      refine rd_Fd (S02 _ _ hi) cls T.n_FromPoints_newest (by rfl) ?_
      refine ⟨nw, rfl, ?_⟩
      cases nw with
      | true =>
        walk_at "rx"
        rw [show (-1 : Int) = -1 from rfl]
        refine rd_newL fun H3 D2 S3 n3 h3 => ?_
        walk_at "rx"
        refine ⟨D2, rfl, S02.trans S3, ?_⟩
        rw [h3, cut_m1, nvs_len]
        unfold psd nvs niz
        rw [if_pos rfl, List.map_drop, List.map_drop]
      | false =>
        walk_at "rx"
        exact ⟨D, rfl, S02, hD⟩
    rintro σ' H3 ⟨D2, rfl, S3, h3⟩
    have pl := psd_len nw ns p
    generalize hps : psd nw ns p = qs at h3 pl
    walk_at "rx"
    refine lc_acc2 (walk_list (xs := nvs qs)) (fun i acc H' => ∃ cs, acc = cs.map V.ref ∧ SsAt H' cs (((qs.take i).filter fun g => decide (g < p)).map fun g => (-1, [g]))) ⟨[], rfl, by rw [List.take_zero]; exact .nil⟩ (fun i acc Ha Hb k pp => by obtain ⟨bs, e1, e2⟩ := pp; exact ⟨bs, e1, e2.kt k⟩) (fun i acc H' hi pp => by
      obtain ⟨cs, rfl, e2⟩ := pp
      have h1 := e2.1
      have h2 := List.length_filter_le (fun g => decide (g < p)) (qs.take i)
      rw [List.length_map] at h1
      rw [List.length_take] at h2
      rw [List.length_map]
      omega) (fun H' S => SqL.of (S _ _ h3)) ?_ ?_
    · rintro i x Hx Hy acc Qc R hi2 Sx ⟨cs, rfl, tc⟩ ⟨rfl, ex⟩ qc rc
      rw [nvs_len] at hi2
      have er : qs[i]? = some qs[i] := List.getElem?_eq_getElem hi2
      rw [nvs_get er] at ex
      cases ex
      have tk : qs.take (i + 1) = qs.take i ++ [qs[i]] := by rw [List.take_succ, er]; rfl
      generalize hg : qs[i] = g at tk
      walk_at "rx"
      refine ⟨rfl, ?_⟩
      walk_at "rx"
      by_cases z : g < p
      · rw [decide_eq_true (show (g : Int) < (p : Int) by omega)]
        walk_at "rx"
        refine rd_Cn (Sx _ _ (S3 _ _ hi)) cls oR (by rfl) ?_
        walk_at "rx"
        refine rd_newQ (by simp) fun H4 p4 S4 n4 h4 => ?_
        walk_at "rx"
        refine rd_newQ (by simp) fun H5 p5 S5 n5 h5 => ?_
        refine qc _ _ (S4.trans S5) ⟨cs ++ [p5], by rw [List.map_append]; rfl, ?_⟩
        rw [tk, List.filter_append, List.map_append, List.filter_cons (x := g), if_pos (decide_eq_true z)]
        exact (tc.same (S4.trans S5)).snoc ⟨p4, h5, S5 _ _ h4⟩
      · rw [decide_eq_false (show ¬ (g : Int) < (p : Int) by omega)]
        walk_at "rx"
        refine rc _ (Same.refl _) ⟨cs, rfl, ?_⟩
        rw [tk, List.filter_append, List.filter_cons (x := g), if_neg (by rw [decide_eq_false z]; exact Bool.false_ne_true), List.filter_nil, List.append_nil]
        exact tc
    intro H4 D4 acc S4 nD4 hD4 pp
    obtain ⟨cs, rfl, tc⟩ := pp
    rw [nvs_len, List.take_length] at tc
    refine q H4 D4 cs (S3.trans S4) (S3.free nD4) hD4 ?_
    show SsAt H4 cs (((psd nw ns p).filter fun g => decide (g < p)).map fun g => (-1, [g]))
    rw [hps]
    exact tc
def spFromPoints_steps (K : PySem.W.Frag) : Sp := fun vs H Q _ => ∃ (a b : Addr) (p len : Nat) (nw : Bool) (ns : List Nat), vs = [.ref a, .ref b, .int (len : Int)] ∧ RAt K H a (.leaf (.pts nw ns)) ∧ ROk (.leaf (.pts nw ns)) ∧ H b = some (.tup (nvs [p])) ∧ p ≤ 60 ∧ ∀ H' l ps, Same H H' → H l = none → H' l = some (.lst (ps.map V.ref)) → SsAt H' ps (ahd p len ++ furR (.leaf (.pts nw ns)) p) → Q (.ref l) H'
set_option maxHeartbeats 4000000 in
theorem okFromPoints_steps (T : Top K mg) {f : Addr} {fd : FuncData} {C : Addr} (D : MDef K C "steps" "FromPoints.steps" sFromPoints_steps ["self", "state", "length"] f fd) : FnOk P w K mg base CX0 2 f fd ["self", "state", "length"] (spFromPoints_steps K) := by
  obtain ⟨f_ahead, fd_ahead, D_ahead⟩ := T.d__ahead
  have G_ahead : FnOk P w K mg base CX0 1 f_ahead fd_ahead ["state", "length"] (sp_ahead K) := ok_ahead T D_ahead
  obtain ⟨fFromPoints_further, fdFromPoints_further, DFromPoints_further⟩ := T.d_FromPoints_further
  have GFromPoints_further : FnOk P w K mg base CX0 1 fFromPoints_further fdFromPoints_further ["self", "position"] (spFromPoints_further K) := okFromPoints_further T DFromPoints_further
  refine D.F.ok scFromPoints_steps (fun vs H Q E h => ?_) (fun cdv A outer s H vs Q E hr h => ?_)
  · obtain ⟨a, b, p, len, nw, ns, rfl, _⟩ := h
    rfl
  · obtain ⟨a, b, p, len, nw, ns, rfl, hr_, ok, hb, p60, q⟩ := h
    have hb' : H b = some (.tup [V.int (p : Int)]) := hb
    have lf := furR_len ok p60
    have la := ahd_len p len
    refine ⟨_, (pss_one (ps_ret (pe_op op_cat (pe_call G_ahead hr (by rfl) D_ahead.g D_ahead.F.kp D_ahead.b .nil pass0 (pa_cons (pv 1) (pa_cons (pv 2) pa_nil))) (pe_meth (pv 0) T.c_FromPoints.cls DFromPoints_further.m GFromPoints_further (hr.mono (by decide)) DFromPoints_further.b .nil pass0 (pa_cons (pe_ix (r := rIxT K) ix_tup (pv 1) pe_int (fun _ _ => rfl)) pa_nil))))), ?_⟩
    walk_at "rx"
    refine ⟨b, p, len, rfl, hb, fun H1 l1 ps1 S1 n1 h1 t1 => ?_⟩
    have hr1 := hr_.ki (Ki.same S1)
    have hb1 := S1 _ _ hb'
    have lt1 := t1.1
    walk_at "rx"
    have hr2 := hr1
    obtain ⟨dx, t0, hi, _⟩ := hr2
    refine rd_Mt hi rfl ?_
    walk_at "rx"
    refine ⟨a, p, nw, ns, rfl, hr1, ok, p60, fun H2 l2 ps2 S2 n2 h2 t2 => ?_⟩
    have lt2 := t2.1
    refine rd_catLN (S2 _ _ h1) h2 (by rw [List.length_map, List.length_map, lt1, lt2]; have := lf; omega) ?_
    refine rd_newL fun H3 l S3 nl hl => ?_
    exact q H3 l (ps1 ++ ps2) ((S1.trans S2).trans S3) ((S1.trans S2).free nl) (by rw [hl, List.map_append]) (((t1.same S2).app t2).same S3)
def spLate_further (K : PySem.W.Frag) : Sp := fun vs H Q _ => ∃ (a : Addr) (p : Nat) (o : Option (List Nat)), vs = [.ref a, .int (p : Int)] ∧ RAt K H a (.leaf (.late o)) ∧ ROk (.leaf (.late o)) ∧ p ≤ 60 ∧ ∀ H' l ps, Same H H' → H l = none → H' l = some (.lst (ps.map V.ref)) → SsAt H' ps (furR (.leaf (.late o)) p) → Q (.ref l) H'
set_option maxHeartbeats 4000000 in
theorem okLate_further (T : Top K mg) {f : Addr} {fd : FuncData} {C : Addr} (D : MDef K C "further" "Late.further" sLate_further ["self", "position"] f fd) : FnOk P w K mg base CX0 1 f fd ["self", "position"] (spLate_further K) := by
  refine D.F.ok scLate_further (fun vs H Q E h => ?_) (fun cdv A outer s H vs Q E hr h => ?_)
  · obtain ⟨a, p, o, rfl, _⟩ := h
    rfl
  · obtain ⟨a, p, o, rfl, hr_, ok, p60, q⟩ := h
    have hrl := hr_
    have cls := T.c_Late.cls
    refine ⟨_, (pss_one (ps_ret (pe_lc (own := [("line", 2)]) (g := gName 2) (tt := _) rfl scLate_further.nd (pi_range1 (by rfl) T.b_range (pa_cons (pv 1) pa_nil))
      (blkOk_by (own := [("line", 2)]) (N := ["self", "position", "line"]) (sc := defScope sLate_further) (by decide +kernel)) (fun _ _ _ _ _ => (pg_name (i := 2) scLate_further.nd rfl (.inl rfl))) (fun _ _ _ _ _ => pts_one (PW.pt (pw_or (pt_cmpR op_isNQ (pe_fldK (K := K) rfl (pv 0) rfl) pe_non (nomark _)) (pw_or1 (pt_cmpR (r := rIn K false) op_in_seq (pv 2) (pe_fldK (K := K) rfl (pv 0) rfl) (by rfl))))))
      (fun _ _ _ _ _ => (pe_tup (pa_cons (pv 2) (pa_cons (pe_tup (pa_cons (pv 1) pa_nil)) pa_nil))))))), ?_⟩
    have hrp : -100000 ≤ (p : Int) ∧ (p : Int) ≤ 100000 := by omega
    walk_at "rx"
    refine lc_acc2 walk_rng (fun i acc H' => ∃ cs, acc = cs.map V.ref ∧ SsAt H' cs (((List.range i).filter fun j => lsel o j).map fun j : Nat => ((j : Int), [p]))) ⟨[], rfl, by rw [List.range_zero]; exact .nil⟩ (fun i acc Ha Hb k pp => by obtain ⟨bs, e1, e2⟩ := pp; exact ⟨bs, e1, e2.kt k⟩) (fun i acc H' hi pp => by
      obtain ⟨cs, rfl, e2⟩ := pp
      have h1 := e2.1
      have h2 := List.length_filter_le (fun j => lsel o j) (List.range i)
      rw [List.length_map] at h1
      rw [List.length_range] at h2
      rw [List.length_map]
      omega) (fun _ _ => trivial) ?_ ?_
    · rintro i x Hx Hy acc Qc R hi2 Sx ⟨cs, rfl, tc⟩ ⟨rfl, rfl⟩ qc rc
      have hx := hrl.ki (Ki.same Sx)
      walk_at "rx"
      refine ⟨rfl, ?_⟩
      walk_at "rx"
      cases o with
      | none =>
        obtain ⟨dx, hi⟩ := hx
        refine rd_Fd hi cls T.n_Late_lines (by rfl) ?_
        walk_at "rx"
        show if true = true then _ else _
        walk_at "rx"
        refine rd_newQ (by simp) fun H4 p4 S4 n4 h4 => ?_
        walk_at "rx"
        refine rd_newQ (by simp) fun H5 p5 S5 n5 h5 => ?_
        refine qc _ _ (S4.trans S5) ⟨cs ++ [p5], by rw [List.map_append]; rfl, ?_⟩
        rw [lsel_succ, List.map_append, if_pos (show lsel none i = true from rfl)]
        exact (tc.same (S4.trans S5)).snoc ⟨p4, h5, S5 _ _ h4⟩
      | some ns =>
        obtain ⟨dx, t0, hi, ht⟩ := hx
        refine rd_Fd hi cls T.n_Late_lines (by rfl) ?_
        walk_at "rx"
        show if false = true then _ else _
        walk_at "rx"
        refine rd_Fd hi cls T.n_Late_lines (by rfl) ?_
        refine rd_inT ht rfl (nvs_flat _) ?_
        rw [nvs_in]
        walk_at "rx"
        by_cases z : i ∈ ns
        · rw [decide_eq_true z]
          walk_at "rx"
          refine rd_newQ (by simp) fun H4 p4 S4 n4 h4 => ?_
          walk_at "rx"
          refine rd_newQ (by simp) fun H5 p5 S5 n5 h5 => ?_
          refine qc _ _ (S4.trans S5) ⟨cs ++ [p5], by rw [List.map_append]; rfl, ?_⟩
          rw [lsel_succ, List.map_append, if_pos (show lsel (some ns) i = true from decide_eq_true z)]
          exact (tc.same (S4.trans S5)).snoc ⟨p4, h5, S5 _ _ h4⟩
        · rw [decide_eq_false z]
          walk_at "rx"
          refine rc _ (Same.refl _) ⟨cs, rfl, ?_⟩
          rw [lsel_succ, if_neg (show ¬ lsel (some ns) i = true by show ¬ decide (i ∈ ns) = true; rw [decide_eq_false z]; exact Bool.false_ne_true), List.append_nil]
          exact tc
    intro H3 D acc S3 nD hD pp
    obtain ⟨cs, rfl, tc⟩ := pp
    refine q H3 D cs S3 nD hD ?_
    show SsAt H3 cs (fur (.late o) p)
    rw [fur_late]
    exact tc
def spLate_steps (K : PySem.W.Frag) : Sp := fun vs H Q _ => ∃ (a b : Addr) (p len : Nat) (o : Option (List Nat)), vs = [.ref a, .ref b, .int (len : Int)] ∧ RAt K H a (.leaf (.late o)) ∧ ROk (.leaf (.late o)) ∧ H b = some (.tup (nvs [p])) ∧ p ≤ 60 ∧ ∀ H' l ps, Same H H' → H l = none → H' l = some (.lst (ps.map V.ref)) → SsAt H' ps (ahd p len ++ furR (.leaf (.late o)) p) → Q (.ref l) H'
set_option maxHeartbeats 4000000 in
theorem okLate_steps (T : Top K mg) {f : Addr} {fd : FuncData} {C : Addr} (D : MDef K C "steps" "Late.steps" sLate_steps ["self", "state", "length"] f fd) : FnOk P w K mg base CX0 2 f fd ["self", "state", "length"] (spLate_steps K) := by
  obtain ⟨f_ahead, fd_ahead, D_ahead⟩ := T.d__ahead
  have G_ahead : FnOk P w K mg base CX0 1 f_ahead fd_ahead ["state", "length"] (sp_ahead K) := ok_ahead T D_ahead
  obtain ⟨fLate_further, fdLate_further, DLate_further⟩ := T.d_Late_further
  have GLate_further : FnOk P w K mg base CX0 1 fLate_further fdLate_further ["self", "position"] (spLate_further K) := okLate_further T DLate_further
  refine D.F.ok scLate_steps (fun vs H Q E h => ?_) (fun cdv A outer s H vs Q E hr h => ?_)
  · obtain ⟨a, b, p, len, o, rfl, _⟩ := h
    rfl
  · obtain ⟨a, b, p, len, o, rfl, hr_, ok, hb, p60, q⟩ := h
    have hb' : H b = some (.tup [V.int (p : Int)]) := hb
    have lf := furR_len ok p60
    have la := ahd_len p len
    refine ⟨_, (pss_one (ps_ret (pe_op op_cat (pe_call G_ahead hr (by rfl) D_ahead.g D_ahead.F.kp D_ahead.b .nil pass0 (pa_cons (pv 1) (pa_cons (pv 2) pa_nil))) (pe_meth (pv 0) T.c_Late.cls DLate_further.m GLate_further (hr.mono (by decide)) DLate_further.b .nil pass0 (pa_cons (pe_ix (r := rIxT K) ix_tup (pv 1) pe_int (fun _ _ => rfl)) pa_nil))))), ?_⟩
    walk_at "rx"
    refine ⟨b, p, len, rfl, hb, fun H1 l1 ps1 S1 n1 h1 t1 => ?_⟩
    have hr1 := hr_.ki (Ki.same S1)
    have hb1 := S1 _ _ hb'
    have lt1 := t1.1
    walk_at "rx"
    have hr2 := hr1
    obtain ⟨dx, fs, hi, hfs⟩ : ∃ dx fs, H1 a = some (.ins (atTop K "Late") dx fs) ∧ fs.lookup ("further" : Str) = none := by
      cases o with
      | none => obtain ⟨dx, h⟩ := hr2; exact ⟨dx, _, h, rfl⟩
      | some ns => obtain ⟨dx, t0, h, _⟩ := hr2; exact ⟨dx, _, h, rfl⟩
    refine rd_Mt hi hfs ?_
    walk_at "rx"
    refine ⟨a, p, o, rfl, hr1, ok, p60, fun H2 l2 ps2 S2 n2 h2 t2 => ?_⟩
    have lt2 := t2.1
    refine rd_catLN (S2 _ _ h1) h2 (by rw [List.length_map, List.length_map, lt1, lt2]; have := lf; omega) ?_
    refine rd_newL fun H3 l S3 nl hl => ?_
    exact q H3 l (ps1 ++ ps2) ((S1.trans S2).trans S3) ((S1.trans S2).free nl) (by rw [hl, List.map_append]) (((t1.same S2).app t2).same S3)
def spRule_further (_K : PySem.W.Frag) : Sp := fun vs H Q _ => ∃ (a : Addr) (p : Nat), vs = [.ref a, .int (p : Int)] ∧ ∀ H' l ps, Same H H' → H l = none → H' l = some (.lst (ps.map V.ref)) → SsAt H' ps ([]) → Q (.ref l) H'
set_option maxHeartbeats 4000000 in
theorem okRule_further (T : Top K mg) {f : Addr} {fd : FuncData} {C : Addr} (D : MDef K C "further" "Rule.further" sRule_further ["self", "position"] f fd) : FnOk P w K mg base CX0 1 f fd ["self", "position"] (spRule_further K) := by
  refine D.F.ok scRule_further (fun vs H Q E h => ?_) (fun cdv A outer s H vs Q E hr h => ?_)
  · obtain ⟨a, p, rfl, _⟩ := h
    rfl
  · obtain ⟨a, p, rfl, q⟩ := h
    refine ⟨_, (pss_one (ps_ret (pe_lst pa_nil))), ?_⟩
    walk_at "rx"
    exact rd_newQ (Nat.zero_le _) fun H1 l S1 nl hl => q H1 l [] S1 nl hl .nil
def spEither_further (K : PySem.W.Frag) : Sp := fun vs H Q _ => ∃ (a : Addr) (p : Nat) (ls : List Lf), vs = [.ref a, .int (p : Int)] ∧ RAt K H a (.eit ls) ∧ ROk (.eit ls) ∧ p ≤ 60 ∧ ∀ H' l ps, Same H H' → H l = none → H' l = some (.lst (ps.map V.ref)) → SsAt H' ps (furR (.eit ls) p) → Q (.ref l) H'
set_option maxHeartbeats 4000000 in
theorem okEither_further (T : Top K mg) {f : Addr} {fd : FuncData} {C : Addr} (D : MDef K C "further" "Either.further" sEither_further ["self", "position"] f fd) : FnOk P w K mg base CX0 2 f fd ["self", "position"] (spEither_further K) := by
  obtain ⟨fRule_further, fdRule_further, DRule_further⟩ := T.d_Rule_further
  have GRule_further : FnOk P w K mg base CX0 1 fRule_further fdRule_further ["self", "position"] (spRule_further K) := okRule_further T DRule_further
  obtain ⟨fFromTop_further, fdFromTop_further, DFromTop_further⟩ := T.d_FromTop_further
  have GFromTop_further : FnOk P w K mg base CX0 1 fFromTop_further fdFromTop_further ["self", "position"] (spFromTop_further K) := okFromTop_further T DFromTop_further
  obtain ⟨fFromMark_further, fdFromMark_further, DFromMark_further⟩ := T.d_FromMark_further
  have GFromMark_further : FnOk P w K mg base CX0 1 fFromMark_further fdFromMark_further ["self", "position"] (spFromMark_further K) := okFromMark_further T DFromMark_further
  obtain ⟨fFromPoints_further, fdFromPoints_further, DFromPoints_further⟩ := T.d_FromPoints_further
  have GFromPoints_further : FnOk P w K mg base CX0 1 fFromPoints_further fdFromPoints_further ["self", "position"] (spFromPoints_further K) := okFromPoints_further T DFromPoints_further
  obtain ⟨fLate_further, fdLate_further, DLate_further⟩ := T.d_Late_further
  have GLate_further : FnOk P w K mg base CX0 1 fLate_further fdLate_further ["self", "position"] (spLate_further K) := okLate_further T DLate_further
  refine D.F.ok scEither_further (fun vs H Q E h => ?_) (fun cdv A outer s H vs Q E hr h => ?_)
  · obtain ⟨a, p, ls, rfl, _⟩ := h
    rfl
  · obtain ⟨a, p, ls, rfl, hr_, ok, p60, q⟩ := h
    obtain ⟨dx, t0, as, hi, ht, hl⟩ := hr_
    obtain ⟨l1, l7, okl⟩ := ok
    have la := hl.1
    have cls := T.c_Either.cls
    refine ⟨_, (pss_cons (ps_set (i := 2) scEither_further.nd rfl (.inl rfl) (pe_dnewN rfl rfl))
    (pss_cons (ps_for PassesOwn.never rfl (pi_tup (pe_fldK (K := K) rfl (pv 0) rfl)) (pg_name (i := 3) scEither_further.nd rfl (.inl rfl)) (pss_one (ps_for PassesOwn.never rfl (pi_list (pe_cutX (pe_alt (pe_meth (pv 3) T.c_Rule.cls DRule_further.m GRule_further (hr.mono (by decide)) DRule_further.b .nil pass0 (pa_cons (pv 1) pa_nil)) (pe_alt (pe_meth (pv 3) T.c_FromTop.cls DFromTop_further.m GFromTop_further (hr.mono (by decide)) DFromTop_further.b .nil pass0 (pa_cons (pv 1) pa_nil)) (pe_alt (pe_meth (pv 3) T.c_FromMark.cls DFromMark_further.m GFromMark_further (hr.mono (by decide)) DFromMark_further.b .nil pass0 (pa_cons (pv 1) pa_nil)) (pe_alt (pe_meth (pv 3) T.c_FromPoints.cls DFromPoints_further.m GFromPoints_further (hr.mono (by decide)) DFromPoints_further.b .nil pass0 (pa_cons (pv 1) pa_nil)) (pe_meth (pv 3) T.c_Late.cls DLate_further.m GLate_further (hr.mono (by decide)) DLate_further.b .nil pass0 (pa_cons (pv 1) pa_nil)))))))) (pg_name (i := 4) scEither_further.nd rfl (.inl rfl)) (pss_one (ps_dputN rfl rfl hr.units (pv 2) (pv 4) pe_bl rfl)))))
    (pss_one (ps_ret (pe_callTy (r := rLstN P w) (call_lstN rfl) (by rfl) T.b_list (by decide +kernel) (pa_cons (pv 2) pa_nil)))))), ?_⟩
    walk_at "rx"
    refine rd_dnewN fun H1 d S1 nd hd => ?_
    have hi1 := S1 _ _ hi
    have ht1 := S1 _ _ ht
    walk_at "rx"
    refine rd_Fd hi1 cls T.n_Either_parts (by rfl) ?_
    walk_at "rx"
    refine fr_it (walk_tup (xs := as.map V.ref)) (fun i σ H' => ∃ (y3 y4 : Option V), σ = [some (.ref a), some (.int (p : Int)), some (.ref d), y3, y4] ∧ Same H H' ∧ Mn P w H' d ((accE (ls.take i) p []).map nkS)) ⟨none, none, rfl, S1, by rw [List.take_zero]; exact Mn.nil hd⟩ (fun i σ H' _ p => by obtain ⟨_, _, _, S, _⟩ := p; exact SqT.of (S _ _ ht)) ?_ ?_
    · rintro i x σ H2 H3 hi2 ⟨y3, y4, rfl, S2, M2⟩ ⟨rfl, ex⟩
      rw [List.length_map] at hi2
      have hil : i < ls.length := by omega
      obtain ⟨b, e1, e2⟩ := (hl.ki (Ki.same S2)).2 i _ (List.getElem?_eq_getElem hil)
      rw [List.getElem?_map, e1] at ex
      cases ex
      have okb : LOk ls[i] := okl _ (List.getElem_mem hil)
      have tk : ls.take (i + 1) = ls.take i ++ [ls[i]] := by rw [List.take_succ, List.getElem?_eq_getElem hil]; rfl
      generalize ls[i] = lf at e2 okb tk
      walk_at "rx"
      refine ⟨fun v H' => ∃ l ps, v = .ref l ∧ Same H3 H' ∧ H3 l = none ∧ H' l = some (.lst (ps.map V.ref)) ∧ SsAt H' ps (fur lf p), ?_, ?_⟩
      · cases lf with
        | once =>
          obtain ⟨dx, h0⟩ := e2
          refine rd_altL ?_
          walk_at "rx"
          refine rd_Mt h0 rfl ?_
          walk_at "rx"
          exact ⟨b, p, rfl, fun H' l ps S nl hl t => ⟨l, ps, rfl, S, nl, hl, t⟩⟩
        | top =>
          have e3 : RAt K H3 b (.leaf .top) := e2
          obtain ⟨dx, h0⟩ := e2
          refine rd_altR (rd_altL ?_)
          walk_at "rx"
          refine rd_Mt h0 rfl ?_
          walk_at "rx"
          exact ⟨b, p, rfl, e3, okb, p60, fun H' l ps S nl hl t => ⟨l, ps, rfl, S, nl, hl, t⟩⟩
        | mark =>
          have e3 : RAt K H3 b (.leaf .mark) := e2
          obtain ⟨dx, h0⟩ := e2
          refine rd_altR (rd_altR (rd_altL ?_))
          walk_at "rx"
          refine rd_Mt h0 rfl ?_
          walk_at "rx"
          exact ⟨b, p, rfl, e3, okb, p60, fun H' l ps S nl hl t => ⟨l, ps, rfl, S, nl, hl, t⟩⟩
        | pts nw ns =>
          have e3 : RAt K H3 b (.leaf (.pts nw ns)) := e2
          obtain ⟨dx, t, h0, _⟩ := e2
          refine rd_altR (rd_altR (rd_altR (rd_altL ?_)))
          walk_at "rx"
          refine rd_Mt h0 rfl ?_
          walk_at "rx"
          exact ⟨b, p, nw, ns, rfl, e3, okb, p60, fun H' l ps S nl hl t => ⟨l, ps, rfl, S, nl, hl, t⟩⟩
        | late o =>
          have e3 : RAt K H3 b (.leaf (.late o)) := e2
          obtain ⟨dx, fs, h0, hfs⟩ : ∃ dx fs, H3 b = some (.ins (atTop K "Late") dx fs) ∧ fs.lookup ("further" : Str) = none := by
            cases o with
            | none => obtain ⟨dx, h⟩ := e2; exact ⟨dx, _, h, rfl⟩
            | some ns => obtain ⟨dx, t0, h, _⟩ := e2; exact ⟨dx, _, h, rfl⟩
          refine rd_altR (rd_altR (rd_altR (rd_altR ?_)))
          walk_at "rx"
          refine rd_Mt h0 hfs ?_
          walk_at "rx"
          exact ⟨b, p, o, rfl, e3, okb, p60, fun H' l ps S nl hl t => ⟨l, ps, rfl, S, nl, hl, t⟩⟩
      rintro v H4 ⟨l, ps, rfl, S4, nl, hlp, tp⟩
      have lp := tp.1
      have fl := fur_len okb p60
      have al := accE_len (ls := ls.take i) (p := p) [] (fun m hm => okl m (List.mem_of_mem_take hm)) p60
      rw [List.length_take, List.length_nil] at al
      walk_at "rx"
      refine fr_it (walk_list (xs := ps.map V.ref)) (fun j σ H' => ∃ (y4 : Option V), σ = [some (.ref a), some (.int (p : Int)), some (.ref d), some (.ref b), y4] ∧ Same H H' ∧ H' l = some (.lst (ps.map V.ref)) ∧ SsAt H' ps (fur lf p) ∧ Mn P w H' d ((((fur lf p).take j).foldl RU.push (accE (ls.take i) p [])).map nkS)) ⟨_, rfl, S2.trans S4, hlp, tp, by rw [List.take_zero]; exact M2.same S4⟩ (fun j σ H' _ p => by obtain ⟨_, _, _, h, _⟩ := p; exact SqL.of h) ?_ ?_
      · rintro j x σ H5 H6 hj ⟨y4, rfl, S5, hl5, tp5, M5⟩ ⟨rfl, ex⟩
        rw [List.length_map] at hj
        have hjf : j < (fur lf p).length := by omega
        obtain ⟨pp, e1, e2⟩ := tp5.at hjf
        rw [List.getElem?_map, e1] at ex
        cases ex
        have tkj : (fur lf p).take (j + 1) = (fur lf p).take j ++ [(fur lf p)[j]] := by rw [List.take_succ, List.getElem?_eq_getElem hjf]; rfl
        have fj := fold_len ((fur lf p).take j) (accE (ls.take i) p [])
        rw [List.length_take] at fj
        walk_at "rx"
        refine rd_dputN ?_
        walk_at "rx"
        refine rd_NP M5 (e2.key) (by rw [List.length_map]; omega) fun H7 ks7 ex7 eu7 M7 old new => ?_
        rw [push_keys old new] at M7
        obtain ⟨φ7, hφ7⟩ := ex7
        obtain ⟨o7, eu7⟩ := eu7
        have kt7 : Kt H6 H7 := by rw [eu7]; exact Kt.mutE hφ7
        refine ⟨_, rfl, by rw [eu7]; exact same_mut S5 nd, by rw [eu7, upd_ne (ne_of hl5 hφ7 (by intro z; cases z))]; exact hl5, tp5.kt kt7, ?_⟩
        rw [tkj, List.foldl_append]
        exact M7
      · rintro σ H5 ⟨y4, rfl, S5, hl5, tp5, M5⟩
        rw [List.length_map, lp, List.take_length] at M5
        refine ⟨_, _, rfl, S5, ?_⟩
        rw [tk]
        unfold accE at M5 ⊢
        rw [List.foldl_append]
        exact M5
    · rintro σ H2 ⟨y3, y4, rfl, S2, M2⟩
      rw [List.length_map, la, List.take_length] at M2
      obtain ⟨xs, h, e, t⟩ := M2.ex
      walk_at "rx"
      refine ⟨d, xs, rfl, h, fun l nl => ?_⟩
      have Sl : Same H2 (upd H2 l (.lst (xs.map fun x => V.ref x.2.1))) := same_new (Same.refl _) nl
      refine q _ l (xs.map fun x => x.2.1) (S2.trans Sl) (S2.free nl) (by rw [upd_same, List.map_map]; rfl) ((ssAt_of e t).same Sl)
def spEither_steps (K : PySem.W.Frag) : Sp := fun vs H Q _ => ∃ (a b : Addr) (p len : Nat) (ls : List Lf), vs = [.ref a, .ref b, .int (len : Int)] ∧ RAt K H a (.eit ls) ∧ ROk (.eit ls) ∧ H b = some (.tup (nvs [p])) ∧ p ≤ 60 ∧ ∀ H' l ps, Same H H' → H l = none → H' l = some (.lst (ps.map V.ref)) → SsAt H' ps (ahd p len ++ furR (.eit ls) p) → Q (.ref l) H'
set_option maxHeartbeats 4000000 in
theorem okEither_steps (T : Top K mg) {f : Addr} {fd : FuncData} {C : Addr} (D : MDef K C "steps" "Either.steps" sEither_steps ["self", "state", "length"] f fd) : FnOk P w K mg base CX0 3 f fd ["self", "state", "length"] (spEither_steps K) := by
  obtain ⟨f_ahead, fd_ahead, D_ahead⟩ := T.d__ahead
  have G_ahead : FnOk P w K mg base CX0 1 f_ahead fd_ahead ["state", "length"] (sp_ahead K) := ok_ahead T D_ahead
  obtain ⟨fEither_further, fdEither_further, DEither_further⟩ := T.d_Either_further
  have GEither_further : FnOk P w K mg base CX0 2 fEither_further fdEither_further ["self", "position"] (spEither_further K) := okEither_further T DEither_further
  refine D.F.ok scEither_steps (fun vs H Q E h => ?_) (fun cdv A outer s H vs Q E hr h => ?_)
  · obtain ⟨a, b, p, len, ls, rfl, _⟩ := h
    rfl
  · obtain ⟨a, b, p, len, ls, rfl, hr_, ok, hb, p60, q⟩ := h
    have hb' : H b = some (.tup [V.int (p : Int)]) := hb
    have lf := furR_len ok p60
    have la := ahd_len p len
    refine ⟨_, (pss_one (ps_ret (pe_op op_cat (pe_call G_ahead (hr.mono (by decide)) (by rfl) D_ahead.g D_ahead.F.kp D_ahead.b .nil pass0 (pa_cons (pv 1) (pa_cons (pv 2) pa_nil))) (pe_meth (pv 0) T.c_Either.cls DEither_further.m GEither_further (hr.mono (by decide)) DEither_further.b .nil pass0 (pa_cons (pe_ix (r := rIxT K) ix_tup (pv 1) pe_int (fun _ _ => rfl)) pa_nil))))), ?_⟩
    walk_at "rx"
    refine ⟨b, p, len, rfl, hb, fun H1 l1 ps1 S1 n1 h1 t1 => ?_⟩
    have hr1 := hr_.ki (Ki.same S1)
    have hb1 := S1 _ _ hb'
    have lt1 := t1.1
    walk_at "rx"
    have hr2 := hr1
    obtain ⟨dx, t0, as, hi, _⟩ := hr2
    refine rd_Mt hi rfl ?_
    walk_at "rx"
    refine ⟨a, p, ls, rfl, hr1, ok, p60, fun H2 l2 ps2 S2 n2 h2 t2 => ?_⟩
    have lt2 := t2.1
    refine rd_catLN (S2 _ _ h1) h2 (by rw [List.length_map, List.length_map, lt1, lt2]; have := lf; omega) ?_
    refine rd_newL fun H3 l S3 nl hl => ?_
    exact q H3 l (ps1 ++ ps2) ((S1.trans S2).trans S3) ((S1.trans S2).free nl) (by rw [hl, List.map_append]) (((t1.same S2).app t2).same S3)
def spLagging_steps (K : PySem.W.Frag) : Sp := fun vs H Q _ => ∃ (a b dx : Addr) (n p h len : Nat), vs = [.ref a, .ref b, .int (len : Int)] ∧ H a = some (.ins (atTop K "Lagging") dx [("age", .int (n : Int))]) ∧ H b = some (.tup (nvs [p, h])) ∧ n ≤ 99 ∧ p ≤ 60 ∧ h ≤ 60 ∧
  ∀ H' l ps, Same H H' → H l = none → H' l = some (.lst (ps.map V.ref)) → SsAt H' ps (lsteps n p h len) → Q (.ref l) H'
set_option maxHeartbeats 4000000 in
theorem okLagging_steps (T : Top K mg) {f : Addr} {fd : FuncData} {C : Addr} (D : MDef K C "steps" "Lagging.steps" sLagging_steps ["self", "state", "length"] f fd) : FnOk P w K mg base CX0 1 f fd ["self", "state", "length"] (spLagging_steps K) := by
  refine D.F.ok scLagging_steps (fun vs H Q E h => ?_) (fun cdv A outer s H vs Q E hr h => ?_)
  · obtain ⟨a, b, dx, n, p, h, len, rfl, _⟩ := h
    rfl
  · obtain ⟨a, b, dx, n, p, hh, len, rfl, ha, hb, l99, p60, h60, q⟩ := h
    have hb : H b = some (.tup [V.int (p : Int), V.int (hh : Int)]) := hb
    obtain ⟨u, oR⟩ := T.o_Lagging_RESTART
    have cls := T.c_Lagging.cls
    refine ⟨_, (pss_cons (ps_asg (pv 1) (pg_tup rfl (pgs_cons (pg_name (i := 3) scLagging_steps.nd rfl (.inl rfl)) (pgs_cons (pg_name (i := 4) scLagging_steps.nd rfl (.inl rfl)) pgs_nil))))
    (pss_cons (ps_set (i := 5) scLagging_steps.nd rfl (.inl rfl) (pe_lst pa_nil))
    (C8.pss_cut (ps_if (pt_cmpR op_lt (pv 3) (pv 2) (nomark _)) (pss_one (ps_expr (pe_bm PySem.F.plainAttrs_list PySem.F.slot_list_append PySem.F.type_list_append mt_append (pv 5) (pa_cons (pe_tup (pa_cons (pv 3) (pa_cons (pe_tup (pa_cons (pe_op op_add (pv 3) pe_int) (pa_cons (pe_callB (r := rMaxQ) (call_maxQ rfl) (by rfl) T.b_max (by decide +kernel) (pa_cons (pv 4) (pa_cons (pe_op op_add (pv 3) pe_int) pa_nil))) pa_nil))) pa_nil))) pa_nil)))) pss_nil)
    (pss_cons (ps_for PassesOwn.never rfl (pi_range2 (by rfl) T.b_range (pa_cons (pe_callB (r := rMaxQ) (call_maxQ rfl) (by rfl) T.b_max (by decide +kernel) (pa_cons pe_int (pa_cons (pe_op op_sub (pv 4) (pe_fldK (K := K) rfl (pv 0) rfl)) pa_nil))) (pa_cons (pv 3) pa_nil))) (pg_name (i := 6) scLagging_steps.nd rfl (.inl rfl)) (pss_one (ps_expr (pe_bm PySem.F.plainAttrs_list PySem.F.slot_list_append PySem.F.type_list_append mt_append (pv 5) (pa_cons (pe_tup (pa_cons (pe_conK (K := K) rfl (pv 0) rfl) (pa_cons (pe_tup (pa_cons (pv 6) (pa_cons (pv 4) pa_nil))) pa_nil))) pa_nil)))))
    (pss_one (ps_ret (pv 5))))))), ?_⟩
    walk_at "rx"
    refine rd_newQ (Nat.zero_le _) fun H1 Fo S1 nFo hFo => ?_
    walk_at "rx"
    refine ⟨fun σ' H' => ∃ (ps : List Addr), σ' = [some (.ref a), some (.ref b), some (.int (len : Int)), some (.int (p : Int)), some (.int (hh : Int)), some (.ref Fo), none] ∧ Same H H' ∧ H' Fo = some (.lst (ps.map V.ref)) ∧ SsAt H' ps (if p < len then [((p : Int), [p + 1, max hh (p + 1)])] else []), ?_, ?_⟩
    · walk_at "rx"
      by_cases z : p < len
      · rw [decide_eq_true (show (p : Int) < (len : Int) by omega)]
        walk_at "rx"
        rw [show (if (p : Int) + 1 > (hh : Int) then (p : Int) + 1 else (hh : Int)) = ((max hh (p + 1) : Nat) : Int) by split <;> omega]
        refine rd_newQ (by simp) fun H2 p2 S2 n2 h2 => ?_
        walk_at "rx"
        refine rd_newQ (by simp) fun H3 p3 S3 n3 h3 => ?_
        have hFo3 := S3 _ _ (S2 _ _ hFo)
        have l0 : ([] : List V).length < 1000 := by decide
        walk_at "rx"
        refine ⟨[p3], rfl, same_mut ((S1.trans S2).trans S3) nFo, by rw [upd_same]; rfl, ?_⟩
        rw [if_pos z]
        have h2' := S3 _ _ h2
        exact SsAt.kt (.one ⟨p2, h3, h2'⟩) (Kt.mut hFo3)
      · rw [decide_eq_false (show ¬ (p : Int) < (len : Int) by omega)]
        walk_at "rx"
        refine ⟨[], rfl, S1, hFo, ?_⟩
        rw [if_neg z]
        exact .nil
    · rintro σ H2 ⟨ps, rfl, S2, hFo2, t2⟩
      walk_at "rx"
      refine rd_Fd (S2 _ _ ha) cls T.n_Lagging_age (by rfl) ?_
      walk_at "rx"
      have em : (if (hh : Int) - (n : Int) > 0 then (hh : Int) - (n : Int) else 0) = ((hh - n : Nat) : Int) := by split <;> omega
      rw [em]
      have hrr : -100000 ≤ ((hh - n : Nat) : Int) ∧ ((hh - n : Nat) : Int) ≤ 100000 ∧ -100000 ≤ (p : Int) ∧ (p : Int) ≤ 100000 := by omega
      walk_at "rx"
      have lp := t2.1
      refine fr_rng (fun i σ H' => ∃ (ps : List Addr) (y : Option V), σ = [some (.ref a), some (.ref b), some (.int (len : Int)), some (.int (p : Int)), some (.int (hh : Int)), some (.ref Fo), y] ∧ Same H H' ∧ H' Fo = some (.lst (ps.map V.ref)) ∧ i ≤ p - (hh - n) ∧ SsAt H' ps ((if p < len then [((p : Int), [p + 1, max hh (p + 1)])] else []) ++ (List.range i).map fun i => (-1, [hh - n + i, hh])))
        ⟨ps, _, rfl, S2, hFo2, Nat.zero_le _, by rw [List.range_zero, List.map_nil, List.append_nil]; exact t2⟩ ?_ ?_
      · rintro i σ H3 hi ⟨ps, y, rfl, S3, hFo3, _, t3⟩
        have hi2 : i < p - (hh - n) := by omega
        have lps := t3.1
        rw [List.length_append, List.length_map, List.length_range] at lps
        have l1 : (if p < len then [((p : Int), [p + 1, max hh (p + 1)])] else ([] : List Stp)).length ≤ 1 := by split <;> simp
        walk_at "rx"
        refine rd_Cn (S3 _ _ ha) cls oR (by rfl) ?_
        walk_at "rx"
        rw [show ((hh - n : Nat) : Int) + (i : Int) = ((hh - n + i : Nat) : Int) by omega]
        refine rd_newQ (by simp) fun H4 p4 S4 n4 h4 => ?_
        walk_at "rx"
        refine rd_newQ (by simp) fun H5 p5 S5 n5 h5 => ?_
        have hFo5 := S5 _ _ (S4 _ _ hFo3)
        have l0 : (ps.map V.ref).length < 1000 := by rw [List.length_map]; omega
        walk_at "rx"
        refine ⟨ps ++ [p5], _, rfl, same_mut ((S3.trans S4).trans S5) nFo, by rw [upd_same, List.map_append]; rfl, by omega, ?_⟩
        rw [List.range_succ, List.map_append, ← List.append_assoc]
        exact ((t3.same (S4.trans S5)).snoc (s := (-1, [hh - n + i, hh])) ⟨p4, h5, S5 _ _ h4⟩).kt (Kt.mut hFo5)
      · rintro σ H3 ⟨ps, y, rfl, S3, hFo3, _, t3⟩
        walk_at "rx"
        rw [show ((p : Int) - ((hh - n : Nat) : Int)).toNat = p - (hh - n) by omega] at t3
        exact q H3 Fo ps S3 nFo hFo3 t3
def sp_moved (K : PySem.W.Frag) : Sp := fun vs H Q _ => ∃ (a : Addr) (st : List Nat) (p g : Nat), vs = [.ref a, .int (p : Int), .int (g : Int)] ∧ GT H a (niz st) ∧ p ∈ st ∧ st.length ≤ 3 ∧ ∀ H' l, Same H H' → GT H' l (niz (mvd st p g)) → Q (.ref l) H'
set_option maxHeartbeats 4000000 in
theorem ok_moved (T : Top K mg) {f : Addr} {fd : FuncData} (D : Def K mg "_moved" s_moved ["state", "position", "goal"] f fd) : FnOk P w K mg base CX0 1 f fd ["state", "position", "goal"] (sp_moved K) := by
  refine D.F.ok sc_moved (fun vs H Q E h => ?_) (fun cdv A outer s H vs Q E hr h => ?_)
  · obtain ⟨a, st, p, g, rfl, _⟩ := h
    rfl
  · obtain ⟨a, st, p, g, rfl, ha, hp, l3, q⟩ := h
    have hl := List.idxOf_lt_length_iff.mpr hp
    refine ⟨_, (pss_cons (ps_set (i := 3) sc_moved.nd rfl (.inl rfl) (pe_tix (pv 0) (pv 1)))
    (pss_one (ps_ret (pe_callTy (r := rTupF K) call_tupF (by rfl) T.b_tuple (by decide +kernel) (pa_cons (pe_callB (r := rSortT) cr_sortT (by rfl) T.b_sorted (by decide +kernel) (pa_cons (pe_op (r := rCat3 K) op_cat3 (pe_op (r := rCat3 K) op_cat3 (pe_slice sl_tup (pv 0) po_none (po_some (pv 3))) (pe_tup (pa_cons (pv 2) pa_nil))) (pe_slice sl_tup (pv 0) (po_some (pe_op op_add (pv 3) pe_int)) po_none)) pa_nil)) pa_nil))))), ?_⟩
    walk_at "rx"
    refine rd_tidx rfl rfl ha hp ?_
    walk_at "rx"
    refine rd_slG ha ?_ ?_
    · rintro ⟨_, z⟩
      have z1 := HT.sIx_nat (niz st).length (niz st).length (st.idxOf p)
      rw [z1, niz_len] at z
      omega
    refine rd_newL fun H4 p4 S4 n4 h4 => ?_
    have h4 : H4 p4 = some (.tup (cutV (nvs st) none (some (st.idxOf p : Int)))) := h4
    rw [cut_to (k := st.idxOf p) (by rw [nvs_len]; omega)] at h4
    have ha4 := ha.same S4
    walk_at "rx"
    refine rd_newQ (by simp) fun H5 p5 S5 n5 h5 => ?_
    refine rd_cat3 (S5 _ _ h4) h5 (by rw [List.length_take, nvs_len, List.length_singleton]; omega) fun H6 p6 S6 h6 => ?_
    have ha6 := ha4.same (S5.trans S6)
    walk_at "rx"
    rw [show ((st.idxOf p : Nat) : Int) + 1 = ((st.idxOf p + 1 : Nat) : Int) by omega]
    refine rd_slG ha6 ?_ ?_
    · rintro ⟨z, _⟩
      have z1 := HT.sIx_nat (niz st).length 0 (st.idxOf p + 1)
      rw [z1, niz_len] at z
      omega
    refine rd_newL fun H7 p7 S7 n7 h7 => ?_
    have h7 : H7 p7 = some (.tup (cutV (nvs st) (some ((st.idxOf p + 1 : Nat) : Int)) none)) := h7
    rw [cut_from (k := st.idxOf p + 1) (by rw [nvs_len]; omega), show (nvs st).drop (st.idxOf p + 1) = nvs (st.drop (st.idxOf p + 1)) by unfold nvs niz; rw [List.map_drop, List.map_drop]] at h7
    rw [show (nvs st).take (st.idxOf p) = nvs (st.take (st.idxOf p)) by unfold nvs niz; rw [List.map_take, List.map_take]] at h6
    refine rd_cat3 (S7 _ _ h6) h7 (by rw [List.length_append, nvs_len, nvs_len, List.length_take, List.length_drop, List.length_singleton]; omega) fun H8 p8 S8 h8 => ?_
    have e8 : nvs (st.take (st.idxOf p)) ++ [V.int (g : Int)] ++ nvs (st.drop (st.idxOf p + 1)) = nvs (st.set (st.idxOf p) g) := by
      rw [← idx_set hp, nvs_app, nvs_app]
      rfl
    rw [e8] at h8
    walk_at "rx"
    refine rd_sortT (ns := niz (st.set (st.idxOf p) g)) h8 (by rw [niz_len, List.length_set]; omega) fun H9 p9 ms S9 n9 h9 pm pw => ?_
    have em : ms = niz (mvd st p g) := srt_is pm pw
    rw [em] at h9
    walk_at "rx"
    refine rd_tupF h9 fun H10 p10 S10 n10 h10 => ?_
    exact q H10 p10 ((((((S4.trans S5).trans S6).trans S7).trans S8).trans S9).trans S10) h10
def spWorkers_steps (K : PySem.W.Frag) : Sp := fun vs H Q _ => ∃ (a b dx : Addr) (c : Nat) (st : List Nat) (len : Nat), vs = [.ref a, .ref b, .int (len : Int)] ∧ H a = some (.ins (atTop K "Workers") dx [("count", .int (c : Int))]) ∧ GT H b (niz st) ∧ st.length ≤ 3 ∧ (∀ x ∈ st, x ≤ len) ∧
  ∀ H' l ps, Same H H' → H l = none → H' l = some (.lst (ps.map V.ref)) → StpsAt H' ps (wsteps st len) → Q (.ref l) H'
set_option maxHeartbeats 4000000 in
theorem okWorkers_steps (T : Top K mg) {f : Addr} {fd : FuncData} {C : Addr} (D : MDef K C "steps" "Workers.steps" sWorkers_steps ["self", "state", "length"] f fd) : FnOk P w K mg base CX0 2 f fd ["self", "state", "length"] (spWorkers_steps K) := by
  obtain ⟨f_moved, fd_moved, D_moved⟩ := T.d__moved
  have G_moved : FnOk P w K mg base CX0 1 f_moved fd_moved ["state", "position", "goal"] (sp_moved K) := ok_moved T D_moved
  refine D.F.ok scWorkers_steps (fun vs H Q E h => ?_) (fun cdv A outer s H vs Q E hr h => ?_)
  · obtain ⟨a, b, dx, c, st, len, rfl, _⟩ := h
    rfl
  · obtain ⟨a, b, dx, c, st, len, rfl, ha, hb, l3, le, q⟩ := h
    obtain ⟨u, oR⟩ := T.o_Workers_RESTART
    have cls := T.c_Workers.cls
    refine ⟨_, (pss_cons (ps_set (i := 3) scWorkers_steps.nd rfl (.inl rfl) (pe_callB (r := rSortedSet w) (cr_sortedSet rfl) (by rfl) T.b_sorted (by decide +kernel) (pa_cons (pe_callTy (r := rSetI K w) (cr_setI rfl) (by rfl) T.b_set (by decide +kernel) (pa_cons (pv 1) pa_nil)) pa_nil)))
    (pss_cons (ps_setLc (i := 4) (own := [("position", 6)]) (g := gName 6) (tt := _) rfl scWorkers_steps.nd rfl rfl (sw_true rfl rfl rfl (by decide +kernel)) (pi_list (pv 3))
      (blkOk_by (own := [("position", 6)]) (N := ["self", "state", "length", "held", "ahead", "back", "position"]) (sc := defScope sWorkers_steps) (by decide +kernel)) (fun _ _ _ _ _ => (pg_name (i := 6) scWorkers_steps.nd rfl (.inl rfl))) (fun _ _ _ _ _ => pts_one (pt_cmpR op_lt (pv 6) (pv 2) (nomark _)))
      (fun _ _ _ _ _ => (pe_tup (pa_cons (pv 6) (pa_cons (pe_call G_moved hr (by rfl) D_moved.g D_moved.F.kp D_moved.b .nil pass0 (pa_cons (pv 1) (pa_cons (pv 6) (pa_cons (pe_op op_add (pv 6) pe_int) pa_nil)))) pa_nil)))))
    (pss_cons (ps_setLc (i := 5) (own := [("position", 6)]) (g := gName 6) (tt := _) rfl scWorkers_steps.nd rfl rfl (sw_true rfl rfl rfl (by decide +kernel)) (pi_list (pv 3))
      (blkOk_by (own := [("position", 6)]) (N := ["self", "state", "length", "held", "ahead", "back", "position"]) (sc := defScope sWorkers_steps) (by decide +kernel)) (fun _ _ _ _ _ => (pg_name (i := 6) scWorkers_steps.nd rfl (.inl rfl))) (fun _ _ _ _ _ => pts_one (pt_cmpR op_gt (pv 6) pe_int (nomark _)))
      (fun _ _ _ _ _ => (pe_tup (pa_cons (pe_conK (K := K) rfl (pv 0) rfl) (pa_cons (pe_call G_moved hr (by rfl) D_moved.g D_moved.F.kp D_moved.b .nil pass0 (pa_cons (pv 1) (pa_cons (pv 6) (pa_cons pe_int pa_nil)))) pa_nil)))))
    (pss_one (ps_ret (pe_op op_cat (pv 4) (pv 5))))))), ?_⟩
    walk_at "rx"
    refine rd_setG hb (by rw [niz_len]; omega) fun H1 s1 c1 S1 n1 lc1 h1 => ?_
    rw [niz_len] at lc1
    walk_at "rx"
    refine rd_sortedI h1 (by omega) fun H2 Hl os S2 nHl hHl asc los => ?_
    obtain ⟨hs, rfl⟩ : ∃ hs : List Nat, os = niz hs := nat_of (fun k hk => by
      obtain ⟨x, rfl, _⟩ := niz_of ((asc.2 k).mp hk)
      omega)
    have o : hs.Pairwise (· < ·) := by
      have := asc.1
      unfold niz at this
      rw [List.pairwise_map] at this
      exact this.imp fun h => by omega
    have m : ∀ x, x ∈ hs ↔ x ∈ st := fun x => by rw [← mem_niz, asc.2, mem_niz]
    rw [niz_len] at los
    have S02 := S1.trans S2
    walk_at "rx"
    refine lc_accK (walk_list (xs := nvs hs)) (fun i acc H' => ∃ cs, acc = cs.map V.ref ∧ StpsAt H' cs (((hs.take i).filter fun p => decide (p < len)).map fun p : Nat => ((p : Int), mvd st p (p + 1)))) ⟨[], rfl, by rw [List.take_zero]; exact .nil⟩ (fun i acc Ha Hb k pp => by obtain ⟨bs, e1, e2⟩ := pp; exact ⟨bs, e1, e2.kt k⟩) (fun i acc H' hi pp => by
      obtain ⟨cs, rfl, e2⟩ := pp
      have h1 := e2.1
      have h2 := List.length_filter_le (fun p => decide (p < len)) (hs.take i)
      rw [List.length_map] at h1
      rw [List.length_take] at h2
      rw [List.length_map]
      omega) (fun H' S => SqL.of (S _ _ hHl)) ?_ ?_
    · rintro i x Hx Hy acc Qc R hi Sx ⟨cs, rfl, tc⟩ ⟨rfl, ex⟩ qc rc
      rw [nvs_len] at hi
      have er : hs[i]? = some hs[i] := List.getElem?_eq_getElem hi
      rw [nvs_get er] at ex
      cases ex
      have tk : hs.take (i + 1) = hs.take i ++ [hs[i]] := by rw [List.take_succ, er]; rfl
      walk_at "rx"
      refine ⟨rfl, ?_⟩
      walk_at "rx"
      by_cases z : hs[i] < len
      · rw [decide_eq_true (show (hs[i] : Int) < (len : Int) by omega)]
        walk_at "rx"
        refine ⟨b, st, hs[i], hs[i] + 1, rfl, hb.same (S02.trans Sx), (m _).mp (List.getElem_mem hi), l3, fun H3 p3 S3 h3 => ?_⟩
        walk_at "rx"
        refine rd_newQ (by simp) fun H4 p4 S4 n4 h4 => ?_
        refine qc _ _ (S3.trans S4) ⟨cs ++ [p4], by rw [List.map_append]; rfl, ?_⟩
        rw [tk, List.filter_append, List.map_append]
        have e1 : [hs[i]].filter (fun p => decide (p < len)) = [hs[i]] := by rw [List.filter_cons, if_pos (decide_eq_true z)]; rfl
        rw [e1]
        exact (tc.same (S3.trans S4)).snoc ⟨p3, h4, h3.same S4⟩
      · rw [decide_eq_false (show ¬ (hs[i] : Int) < (len : Int) by omega)]
        walk_at "rx"
        refine rc _ (Same.refl _) ⟨cs, rfl, ?_⟩
        rw [tk, List.filter_append]
        have e1 : [hs[i]].filter (fun p => decide (p < len)) = [] := by rw [List.filter_cons, if_neg (by rw [decide_eq_false z]; exact Bool.false_ne_true)]; rfl
        rw [e1, List.append_nil]
        exact tc
    intro H3 Ah acc S3 nAh hAh pp
    obtain ⟨cs, rfl, tc⟩ := pp
    rw [nvs_len, List.take_length, work_fw o m] at tc
    have hHl3 := S3 _ _ hHl
    have S03 := S02.trans S3
    walk_at "rx"
    refine lc_accK (walk_list (xs := nvs hs)) (fun i acc H' => ∃ cs, acc = cs.map V.ref ∧ StpsAt H' cs (((hs.take i).filter fun p => decide (0 < p)).map fun p : Nat => (-1, mvd st p 0))) ⟨[], rfl, by rw [List.take_zero]; exact .nil⟩ (fun i acc Ha Hb k pp => by obtain ⟨bs, e1, e2⟩ := pp; exact ⟨bs, e1, e2.kt k⟩) (fun i acc H' hi pp => by
      obtain ⟨cs, rfl, e2⟩ := pp
      have h1 := e2.1
      have h2 := List.length_filter_le (fun p => decide (0 < p)) (hs.take i)
      rw [List.length_map] at h1
      rw [List.length_take] at h2
      rw [List.length_map]
      omega) (fun H' S => SqL.of (S _ _ hHl3)) ?_ ?_
    · rintro i x Hx Hy acc Qc R hi Sx ⟨ds, rfl, td⟩ ⟨rfl, ex⟩ qc rc
      rw [nvs_len] at hi
      have er : hs[i]? = some hs[i] := List.getElem?_eq_getElem hi
      rw [nvs_get er] at ex
      cases ex
      have tk : hs.take (i + 1) = hs.take i ++ [hs[i]] := by rw [List.take_succ, er]; rfl
      walk_at "rx"
      refine ⟨rfl, ?_⟩
      walk_at "rx"
      by_cases z : 0 < hs[i]
      · rw [decide_eq_true (show (0 : Int) < (hs[i] : Int) by omega)]
        walk_at "rx"
        refine rd_Cn (Sx _ _ (S03 _ _ ha)) cls oR (by rfl) ?_
        walk_at "rx"
        refine ⟨b, st, hs[i], 0, rfl, hb.same (S03.trans Sx), (m _).mp (List.getElem_mem hi), l3, fun H4 p4 S4 h4 => ?_⟩
        walk_at "rx"
        refine rd_newQ (by simp) fun H5 p5 S5 n5 h5 => ?_
        refine qc _ _ (S4.trans S5) ⟨ds ++ [p5], by rw [List.map_append]; rfl, ?_⟩
        rw [tk, List.filter_append, List.map_append]
        have e1 : [hs[i]].filter (fun p => decide (0 < p)) = [hs[i]] := by rw [List.filter_cons, if_pos (decide_eq_true z)]; rfl
        rw [e1]
        exact (td.same (S4.trans S5)).snoc ⟨p4, h5, h4.same S5⟩
      · rw [decide_eq_false (show ¬ (0 : Int) < (hs[i] : Int) by omega)]
        walk_at "rx"
        refine rc _ (Same.refl _) ⟨ds, rfl, ?_⟩
        rw [tk, List.filter_append]
        have e1 : [hs[i]].filter (fun p => decide (0 < p)) = [] := by rw [List.filter_cons, if_neg (by rw [decide_eq_false z]; exact Bool.false_ne_true)]; rfl
        rw [e1, List.append_nil]
        exact td
    intro H4 Bk acc S4 nBk hBk pp
    obtain ⟨ds, rfl, td⟩ := pp
    rw [nvs_len, List.take_length, work_bk o m le] at td
    have lc := tc.1
    have ld := td.1
    have f1 := List.length_filter_le (fun p => decide (p < len)) hs
    have f2 := List.length_filter_le (fun p => decide (0 < p)) hs
    rw [work_fw o m] at f1
    rw [work_bk o m le] at f2
    rw [List.length_map] at lc ld
    walk_at "rx"
    refine rd_catLN (S4 _ _ hAh) hBk (by rw [List.length_map, List.length_map]; omega) ?_
    refine rd_newL fun H5 l S5 nl hl => ?_
    exact q H5 l (cs ++ ds) ((S03.trans S4).trans S5) ((S03.trans S4).free nl) (by rw [hl, List.map_append]) (((tc.same S4).app td).same S5)
def spRule_is_end (_K : PySem.W.Frag) : Sp := fun vs H Q _ => ∃ (a b : Addr) (p len : Nat), vs = [.ref a, .ref b, .int (len : Int)] ∧ H b = some (.tup (nvs [p])) ∧ ∀ H', Same H H' → Q (.bl (decide (p = len))) H'
set_option maxHeartbeats 4000000 in
theorem okRule_is_end (T : Top K mg) {f : Addr} {fd : FuncData} {C : Addr} (D : MDef K C "is_end" "Rule.is_end" sRule_is_end ["self", "state", "length"] f fd) : FnOk P w K mg base CX0 1 f fd ["self", "state", "length"] (spRule_is_end K) := by
  refine D.F.ok scRule_is_end (fun vs H Q E h => ?_) (fun cdv A outer s H vs Q E hr h => ?_)
  · obtain ⟨a, b, p, len, rfl, _⟩ := h
    rfl
  · obtain ⟨a, b, p, len, rfl, hb, q⟩ := h
    refine ⟨_, (pss_one (ps_ret (pe_cmpR (op_eqD hr.units) (pv 1) (pe_tup (pa_cons (pv 2) pa_nil)) (nomark _)))), ?_⟩
    walk_at "rx"
    refine rd_newQ (by simp) fun H1 l S1 n1 h1 => ?_
    refine rd_eqT (a := [p]) (b := [len]) (S1 _ _ hb) h1 ?_
    rw [show decide ([p] = [len]) = decide (p = len) by simp]
    exact q H1 S1
def spLagging_is_end (_K : PySem.W.Frag) : Sp := fun vs H Q _ => ∃ (a b : Addr) (p h len : Nat), vs = [.ref a, .ref b, .int (len : Int)] ∧ H b = some (.tup (nvs [p, h])) ∧ Q (.bl (decide (p = len))) H
set_option maxHeartbeats 4000000 in
theorem okLagging_is_end (T : Top K mg) {f : Addr} {fd : FuncData} {C : Addr} (D : MDef K C "is_end" "Lagging.is_end" sLagging_is_end ["self", "state", "length"] f fd) : FnOk P w K mg base CX0 1 f fd ["self", "state", "length"] (spLagging_is_end K) := by
  refine D.F.ok scLagging_is_end (fun vs H Q E h => ?_) (fun cdv A outer s H vs Q E hr h => ?_)
  · obtain ⟨a, b, p, h, len, rfl, _⟩ := h
    rfl
  · obtain ⟨a, b, p, hh, len, rfl, hb, q⟩ := h
    have hb : H b = some (.tup [V.int (p : Int), V.int (hh : Int)]) := hb
    refine ⟨_, (pss_one (ps_ret (pe_cmpR op_eq (pe_ix (r := rIxT K) ix_tup (pv 1) pe_int (fun _ _ => rfl)) (pv 2) (nomark _)))), ?_⟩
    walk_at "rx"
    rw [decV]
    exact q
def spWorkers_is_end (_K : PySem.W.Frag) : Sp := fun vs H Q _ => ∃ (a b : Addr) (st : List Nat) (len : Nat), vs = [.ref a, .ref b, .int (len : Int)] ∧ GT H b (niz st) ∧ Q (.bl (decide (len ∈ st))) H
set_option maxHeartbeats 4000000 in
theorem okWorkers_is_end (T : Top K mg) {f : Addr} {fd : FuncData} {C : Addr} (D : MDef K C "is_end" "Workers.is_end" sWorkers_is_end ["self", "state", "length"] f fd) : FnOk P w K mg base CX0 1 f fd ["self", "state", "length"] (spWorkers_is_end K) := by
  refine D.F.ok scWorkers_is_end (fun vs H Q E h => ?_) (fun cdv A outer s H vs Q E hr h => ?_)
  · obtain ⟨a, b, st, len, rfl, _⟩ := h
    rfl
  · obtain ⟨a, b, st, len, rfl, hb, q⟩ := h
    refine ⟨_, (pss_one (ps_ret (pe_cmpR (r := rIn K false) op_in_seq (pv 2) (pv 1) (by rfl)))), ?_⟩
    walk_at "rx"
    refine rd_inG hb rfl (nvs_flat _) ?_
    show Q (.bl (inV (.int (len : Int)) (nvs st))) H
    rw [nvs_in]
    exact q
theorem dispS4 {K : PySem.W.Frag} {H : Hp} {σ : L2.St} {i j k : Nat} {r b : Addr} {R : Kd} {st : List Nat} {len : Nat} (h0 : σ[i]? = some (some (.ref r))) (h1 : σ[j]? = some (some (.ref b))) (h2 : σ[k]? = some (some (.int (len : Int))))
    (hr : KRt K H r R) (ok : KOk R) (hb : TAt R H b st) (v : RK.VK R len st) (l60 : len ≤ 60) :
    (tAlt (tMeth (atTop K "Rule") "steps" (spRule_steps K) [] E0 (tVar i) (tCons (tVar j) (tCons (tVar k) tNil))) (tAlt (tMeth (atTop K "FromTop") "steps" (spFromTop_steps K) [] E0 (tVar i) (tCons (tVar j) (tCons (tVar k) tNil))) (tAlt (tMeth (atTop K "FromMark") "steps" (spFromMark_steps K) [] E0 (tVar i) (tCons (tVar j) (tCons (tVar k) tNil))) (tAlt (tMeth (atTop K "FromPoints") "steps" (spFromPoints_steps K) [] E0 (tVar i) (tCons (tVar j) (tCons (tVar k) tNil))) (tAlt (tMeth (atTop K "Late") "steps" (spLate_steps K) [] E0 (tVar i) (tCons (tVar j) (tCons (tVar k) tNil))) (tAlt (tMeth (atTop K "Either") "steps" (spEither_steps K) [] E0 (tVar i) (tCons (tVar j) (tCons (tVar k) tNil))) (tAlt (tMeth (atTop K "Lagging") "steps" (spLagging_steps K) [] E0 (tVar i) (tCons (tVar j) (tCons (tVar k) tNil))) (tMeth (atTop K "Workers") "steps" (spWorkers_steps K) [] E0 (tVar i) (tCons (tVar j) (tCons (tVar k) tNil)))))))))) σ H (fun v H' => ∃ l ps, v = .ref l ∧ Same H H' ∧ H l = none ∧ H' l = some (.lst (ps.map V.ref)) ∧ EsAt R H' ps (stepsK R st len)) := by
  have args : ∀ (R : List V → Hp → Prop), R [.ref b, .int (len : Int)] H → (tCons (tVar j) (tCons (tVar k) tNil)) σ H R := fun R q => ⟨_, h1, _, h2, q⟩
  cases R with
  | w c =>
    obtain ⟨dx, hi⟩ := hr
    refine rd_altR (rd_altR (rd_altR (rd_altR (rd_altR (rd_altR (rd_altR (rd_meth ⟨_, h0, ?_⟩)))))))
    refine rd_Mt hi rfl (args _ ?_)
    exact ⟨r, b, dx, c, st, len, rfl, hi, hb, by rw [v.1]; exact ok.2, v.2, fun H' l ps S nl hl t => ⟨l, ps, rfl, S, nl, hl, t⟩⟩
  | r x =>
    cases x with
    | lag n =>
      obtain ⟨p, hh, rfl, hp, h60⟩ := v
      obtain ⟨dx, hi⟩ := hr
      refine rd_altR (rd_altR (rd_altR (rd_altR (rd_altR (rd_altR (rd_altL (rd_meth ⟨_, h0, ?_⟩)))))))
      refine rd_Mt hi rfl (args _ ?_)
      exact ⟨r, b, dx, n, p, hh, len, rfl, hi, hb, ok, by omega, h60, fun H' l ps S nl hl t => ⟨l, ps, rfl, S, nl, hl, t⟩⟩
    | eit ls =>
      obtain ⟨p, rfl, hp⟩ := v
      have hr0 := hr
      obtain ⟨dx, t, as, hi, _⟩ := hr
      refine rd_altR (rd_altR (rd_altR (rd_altR (rd_altR (rd_altL (rd_meth ⟨_, h0, ?_⟩))))))
      refine rd_Mt hi rfl (args _ ?_)
      exact ⟨r, b, p, len, ls, rfl, hr0, ok, hb, by omega, fun H' l ps S nl hl t => ⟨l, ps, rfl, S, nl, hl, t⟩⟩
    | leaf l =>
      obtain ⟨p, rfl, hp⟩ := v
      have hr0 := hr
      cases l with
      | once =>
        obtain ⟨dx, hi⟩ := hr
        refine rd_altL (rd_meth ⟨_, h0, ?_⟩)
        refine rd_Mt hi rfl (args _ ?_)
        exact ⟨r, b, p, len, rfl, hb, fun H' l ps S nl hl t => ⟨l, ps, rfl, S, nl, hl, by
          show SsAt H' ps (ahd p len ++ [])
          rw [List.append_nil]
          exact t⟩⟩
      | top =>
        obtain ⟨dx, hi⟩ := hr
        refine rd_altR (rd_altL (rd_meth ⟨_, h0, ?_⟩))
        refine rd_Mt hi rfl (args _ ?_)
        exact ⟨r, b, p, len, rfl, hr0, ok, hb, by omega, fun H' l ps S nl hl t => ⟨l, ps, rfl, S, nl, hl, t⟩⟩
      | mark =>
        obtain ⟨dx, hi⟩ := hr
        refine rd_altR (rd_altR (rd_altL (rd_meth ⟨_, h0, ?_⟩)))
        refine rd_Mt hi rfl (args _ ?_)
        exact ⟨r, b, p, len, rfl, hr0, ok, hb, by omega, fun H' l ps S nl hl t => ⟨l, ps, rfl, S, nl, hl, t⟩⟩
      | pts nw ns =>
        obtain ⟨dx, t, hi, _⟩ := hr
        refine rd_altR (rd_altR (rd_altR (rd_altL (rd_meth ⟨_, h0, ?_⟩))))
        refine rd_Mt hi rfl (args _ ?_)
        exact ⟨r, b, p, len, nw, ns, rfl, hr0, ok, hb, by omega, fun H' l ps S nl hl t => ⟨l, ps, rfl, S, nl, hl, t⟩⟩
      | late o =>
        obtain ⟨dx, fs, hi, hfs⟩ : ∃ dx fs, H r = some (.ins (atTop K "Late") dx fs) ∧ fs.lookup ("steps" : Str) = none := by
          cases o with
          | none => obtain ⟨dx, h⟩ := hr; exact ⟨dx, _, h, rfl⟩
          | some ns => obtain ⟨dx, t0, h, _⟩ := hr; exact ⟨dx, _, h, rfl⟩
        refine rd_altR (rd_altR (rd_altR (rd_altR (rd_altL (rd_meth ⟨_, h0, ?_⟩)))))
        refine rd_Mt hi hfs (args _ ?_)
        exact ⟨r, b, p, len, o, rfl, hr0, ok, hb, by omega, fun H' l ps S nl hl t => ⟨l, ps, rfl, S, nl, hl, t⟩⟩
theorem dispF4 {K : PySem.W.Frag} {H : Hp} {σ : L2.St} {i : Nat} {r : Addr} {R : Kd} (h0 : σ[i]? = some (some (.ref r))) (hr : KRt K H r R) (ok : KOk R) :
    (tAlt (tMeth (atTop K "Rule") "first_state" (spRule_first_state K) [] E0 (tVar i) tNil) (tAlt (tMeth (atTop K "FromTop") "first_state" (spRule_first_state K) [] E0 (tVar i) tNil) (tAlt (tMeth (atTop K "FromMark") "first_state" (spRule_first_state K) [] E0 (tVar i) tNil) (tAlt (tMeth (atTop K "FromPoints") "first_state" (spRule_first_state K) [] E0 (tVar i) tNil) (tAlt (tMeth (atTop K "Late") "first_state" (spRule_first_state K) [] E0 (tVar i) tNil) (tAlt (tMeth (atTop K "Either") "first_state" (spRule_first_state K) [] E0 (tVar i) tNil) (tAlt (tMeth (atTop K "Lagging") "first_state" (spLagging_first_state K) [] E0 (tVar i) tNil) (tMeth (atTop K "Workers") "first_state" (spWorkers_first_state K) [] E0 (tVar i) tNil)))))))) σ H (fun v H' => ∃ l, v = .ref l ∧ Same H H' ∧ TAt R H' l (firstK R)) := by
  have args : ∀ (R : List V → Hp → Prop), R [] H → tNil σ H R := fun R q => q
  cases R with
  | w c =>
    obtain ⟨dx, hi⟩ := hr
    refine rd_altR (rd_altR (rd_altR (rd_altR (rd_altR (rd_altR (rd_altR (rd_meth ⟨_, h0, ?_⟩)))))))
    refine rd_Mt hi rfl (args _ ?_)
    exact ⟨r, dx, c, rfl, hi, ok.1, ok.2, fun H' l S h => ⟨l, rfl, S, h⟩⟩
  | r x =>
    cases x with
    | lag n =>
      obtain ⟨dx, hi⟩ := hr
      refine rd_altR (rd_altR (rd_altR (rd_altR (rd_altR (rd_altR (rd_altL (rd_meth ⟨_, h0, ?_⟩)))))))
      refine rd_Mt hi rfl (args _ ?_)
      exact ⟨r, rfl, fun H' l S h => ⟨l, rfl, S, h⟩⟩
    | eit ls =>
      obtain ⟨dx, t, as, hi, _⟩ := hr
      refine rd_altR (rd_altR (rd_altR (rd_altR (rd_altR (rd_altL (rd_meth ⟨_, h0, ?_⟩))))))
      refine rd_Mt hi rfl (args _ ?_)
      exact ⟨r, rfl, fun H' l S h => ⟨l, rfl, S, h⟩⟩
    | leaf l =>
      cases l with
      | once =>
        obtain ⟨dx, hi⟩ := hr
        refine rd_altL (rd_meth ⟨_, h0, ?_⟩)
        refine rd_Mt hi rfl (args _ ?_)
        exact ⟨r, rfl, fun H' l S h => ⟨l, rfl, S, h⟩⟩
      | top =>
        obtain ⟨dx, hi⟩ := hr
        refine rd_altR (rd_altL (rd_meth ⟨_, h0, ?_⟩))
        refine rd_Mt hi rfl (args _ ?_)
        exact ⟨r, rfl, fun H' l S h => ⟨l, rfl, S, h⟩⟩
      | mark =>
        obtain ⟨dx, hi⟩ := hr
        refine rd_altR (rd_altR (rd_altL (rd_meth ⟨_, h0, ?_⟩)))
        refine rd_Mt hi rfl (args _ ?_)
        exact ⟨r, rfl, fun H' l S h => ⟨l, rfl, S, h⟩⟩
      | pts nw ns =>
        obtain ⟨dx, t, hi, _⟩ := hr
        refine rd_altR (rd_altR (rd_altR (rd_altL (rd_meth ⟨_, h0, ?_⟩))))
        refine rd_Mt hi rfl (args _ ?_)
        exact ⟨r, rfl, fun H' l S h => ⟨l, rfl, S, h⟩⟩
      | late o =>
        obtain ⟨dx, fs, hi, hfs⟩ : ∃ dx fs, H r = some (.ins (atTop K "Late") dx fs) ∧ fs.lookup ("first_state" : Str) = none := by
          cases o with
          | none => obtain ⟨dx, h⟩ := hr; exact ⟨dx, _, h, rfl⟩
          | some ns => obtain ⟨dx, t0, h, _⟩ := hr; exact ⟨dx, _, h, rfl⟩
        refine rd_altR (rd_altR (rd_altR (rd_altR (rd_altL (rd_meth ⟨_, h0, ?_⟩)))))
        refine rd_Mt hi hfs (args _ ?_)
        exact ⟨r, rfl, fun H' l S h => ⟨l, rfl, S, h⟩⟩
theorem dispE4 {K : PySem.W.Frag} {H : Hp} {σ : L2.St} {i j k : Nat} {r b : Addr} {R : Kd} {st : List Nat} {len : Nat} (h0 : σ[i]? = some (some (.ref r))) (h1 : σ[j]? = some (some (.ref b))) (h2 : σ[k]? = some (some (.int (len : Int)))) (hb : TAt R H b st) (v : RK.VK R len st) (hr : KRt K H r R) :
    (tAlt (tMeth (atTop K "Rule") "is_end" (spRule_is_end K) [] E0 (tVar i) (tCons (tVar j) (tCons (tVar k) tNil))) (tAlt (tMeth (atTop K "FromTop") "is_end" (spRule_is_end K) [] E0 (tVar i) (tCons (tVar j) (tCons (tVar k) tNil))) (tAlt (tMeth (atTop K "FromMark") "is_end" (spRule_is_end K) [] E0 (tVar i) (tCons (tVar j) (tCons (tVar k) tNil))) (tAlt (tMeth (atTop K "FromPoints") "is_end" (spRule_is_end K) [] E0 (tVar i) (tCons (tVar j) (tCons (tVar k) tNil))) (tAlt (tMeth (atTop K "Late") "is_end" (spRule_is_end K) [] E0 (tVar i) (tCons (tVar j) (tCons (tVar k) tNil))) (tAlt (tMeth (atTop K "Either") "is_end" (spRule_is_end K) [] E0 (tVar i) (tCons (tVar j) (tCons (tVar k) tNil))) (tAlt (tMeth (atTop K "Lagging") "is_end" (spLagging_is_end K) [] E0 (tVar i) (tCons (tVar j) (tCons (tVar k) tNil))) (tMeth (atTop K "Workers") "is_end" (spWorkers_is_end K) [] E0 (tVar i) (tCons (tVar j) (tCons (tVar k) tNil)))))))))) σ H (fun v H' => v = .bl (endK R st len) ∧ Same H H') := by
  have args : ∀ (R : List V → Hp → Prop), R [.ref b, .int (len : Int)] H → (tCons (tVar j) (tCons (tVar k) tNil)) σ H R := fun R q => ⟨_, h1, _, h2, q⟩
  cases R with
  | w c =>
    obtain ⟨dx, hi⟩ := hr
    refine rd_altR (rd_altR (rd_altR (rd_altR (rd_altR (rd_altR (rd_altR (rd_meth ⟨_, h0, ?_⟩)))))))
    refine rd_Mt hi rfl (args _ ?_)
    exact ⟨r, b, st, len, rfl, hb, rfl, Same.refl _⟩
  | r x =>
    cases x with
    | lag n =>
      obtain ⟨p, hh, rfl, hp, h60⟩ := v
      obtain ⟨dx, hi⟩ := hr
      refine rd_altR (rd_altR (rd_altR (rd_altR (rd_altR (rd_altR (rd_altL (rd_meth ⟨_, h0, ?_⟩)))))))
      refine rd_Mt hi rfl (args _ ?_)
      exact ⟨r, b, p, hh, len, rfl, hb, rfl, Same.refl _⟩
    | eit ls =>
      obtain ⟨p, rfl, hp⟩ := v
      obtain ⟨dx, t, as, hi, _⟩ := hr
      refine rd_altR (rd_altR (rd_altR (rd_altR (rd_altR (rd_altL (rd_meth ⟨_, h0, ?_⟩))))))
      refine rd_Mt hi rfl (args _ ?_)
      exact ⟨r, b, p, len, rfl, hb, fun H' S => ⟨rfl, S⟩⟩
    | leaf l =>
      obtain ⟨p, rfl, hp⟩ := v
      cases l with
      | once =>
        obtain ⟨dx, hi⟩ := hr
        refine rd_altL (rd_meth ⟨_, h0, ?_⟩)
        refine rd_Mt hi rfl (args _ ?_)
        exact ⟨r, b, p, len, rfl, hb, fun H' S => ⟨rfl, S⟩⟩
      | top =>
        obtain ⟨dx, hi⟩ := hr
        refine rd_altR (rd_altL (rd_meth ⟨_, h0, ?_⟩))
        refine rd_Mt hi rfl (args _ ?_)
        exact ⟨r, b, p, len, rfl, hb, fun H' S => ⟨rfl, S⟩⟩
      | mark =>
        obtain ⟨dx, hi⟩ := hr
        refine rd_altR (rd_altR (rd_altL (rd_meth ⟨_, h0, ?_⟩)))
        refine rd_Mt hi rfl (args _ ?_)
        exact ⟨r, b, p, len, rfl, hb, fun H' S => ⟨rfl, S⟩⟩
      | pts nw ns =>
        obtain ⟨dx, t, hi, _⟩ := hr
        refine rd_altR (rd_altR (rd_altR (rd_altL (rd_meth ⟨_, h0, ?_⟩))))
        refine rd_Mt hi rfl (args _ ?_)
        exact ⟨r, b, p, len, rfl, hb, fun H' S => ⟨rfl, S⟩⟩
      | late o =>
        obtain ⟨dx, fs, hi, hfs⟩ : ∃ dx fs, H r = some (.ins (atTop K "Late") dx fs) ∧ fs.lookup ("is_end" : Str) = none := by
          cases o with
          | none => obtain ⟨dx, h⟩ := hr; exact ⟨dx, _, h, rfl⟩
          | some ns => obtain ⟨dx, t0, h, _⟩ := hr; exact ⟨dx, _, h, rfl⟩
        refine rd_altR (rd_altR (rd_altR (rd_altR (rd_altL (rd_meth ⟨_, h0, ?_⟩)))))
        refine rd_Mt hi hfs (args _ ?_)
        exact ⟨r, b, p, len, rfl, hb, fun H' S => ⟨rfl, S⟩⟩
def sp_law_run_ends (K : PySem.W.Frag) : Sp := fun vs H Q _ => ∃ (B : Box) (a : Addr) (r : Kd) (len drawn : Nat), vs = [.ref B.b, .ref a, .int (len : Int), .int (drawn : Int)] ∧ IsGb B ∧ B.I H ∧ KSpc B.m H a r ∧ KOk r ∧ (∀ ls, r = .r (.eit ls) → ls.length ≤ 4) ∧ len ≤ 60 ∧ drawn ≤ 60 ∧
  ∀ H' l ps ss e, Wg B H H' → l ∉ B.m → H' l = some (.lst (ps.map V.ref)) → EsAt r H' ps ss → CK r len (firstK r) 0 ss e len → endK r e len = true → ss.length ≤ 300 → Q (.ref l) H'
set_option maxHeartbeats 4000000 in
theorem ok_law_run_ends (T : Top K mg) {f : Addr} {fd : FuncData} (D : Def K mg "_law_run_ends" s_law_run_ends ["box", "spec", "length", "drawn"] f fd) : FnOk P w K mg base CX0 7 f fd ["box", "spec", "length", "drawn"] (sp_law_run_ends K) := by
  obtain ⟨f_law_made, fd_law_made, D_law_made⟩ := T.d__law_made
  have G_law_made : FnOk P w K mg base CX0 6 f_law_made fd_law_made ["spec"] (sp_law_made K) := ok_law_made T D_law_made
  obtain ⟨f_law_ended, fd_law_ended, D_law_ended⟩ := T.d__law_ended
  have G_law_ended : FnOk P w K mg base CX0 1 f_law_ended fd_law_ended ["spec", "state", "length"] (sp_law_ended K) := ok_law_ended T D_law_ended
  obtain ⟨f_law_size, fd_law_size, D_law_size⟩ := T.d__law_size
  have G_law_size : FnOk P w K mg base CX0 1 f_law_size fd_law_size ["spec"] (sp_law_size K) := ok_law_size T D_law_size
  obtain ⟨f_law_is_truth, fd_law_is_truth, D_law_is_truth⟩ := T.d__law_is_truth
  have G_law_is_truth : FnOk P w K mg base CX0 1 f_law_is_truth fd_law_is_truth ["told", "due"] (sp_law_is_truth K) := ok_law_is_truth T D_law_is_truth
  obtain ⟨f_law_are_steps, fd_law_are_steps, D_law_are_steps⟩ := T.d__law_are_steps
  have G_law_are_steps : FnOk P w K mg base CX0 2 f_law_are_steps fd_law_are_steps ["told", "size"] (sp_law_are_steps K) := ok_law_are_steps T D_law_are_steps
  obtain ⟨f_law_draw, fd_law_draw, D_law_draw⟩ := T.d__law_draw
  have G_law_draw : FnOk P w K mg base CX0 1 f_law_draw fd_law_draw ["box", "many"] (sp_law_draw K) := ok_law_draw T D_law_draw
  obtain ⟨fRule_first_state, fdRule_first_state, DRule_first_state⟩ := T.d_Rule_first_state
  have GRule_first_state : FnOk P w K mg base CX0 1 fRule_first_state fdRule_first_state ["self"] (spRule_first_state K) := okRule_first_state T DRule_first_state
  obtain ⟨fFromTop_first_state, fdFromTop_first_state, DFromTop_first_state⟩ := T.d_FromTop_first_state
  have GFromTop_first_state : FnOk P w K mg base CX0 1 fFromTop_first_state fdFromTop_first_state ["self"] (spRule_first_state K) := okRule_first_state T DFromTop_first_state
  obtain ⟨fFromMark_first_state, fdFromMark_first_state, DFromMark_first_state⟩ := T.d_FromMark_first_state
  have GFromMark_first_state : FnOk P w K mg base CX0 1 fFromMark_first_state fdFromMark_first_state ["self"] (spRule_first_state K) := okRule_first_state T DFromMark_first_state
  obtain ⟨fFromPoints_first_state, fdFromPoints_first_state, DFromPoints_first_state⟩ := T.d_FromPoints_first_state
  have GFromPoints_first_state : FnOk P w K mg base CX0 1 fFromPoints_first_state fdFromPoints_first_state ["self"] (spRule_first_state K) := okRule_first_state T DFromPoints_first_state
  obtain ⟨fLate_first_state, fdLate_first_state, DLate_first_state⟩ := T.d_Late_first_state
  have GLate_first_state : FnOk P w K mg base CX0 1 fLate_first_state fdLate_first_state ["self"] (spRule_first_state K) := okRule_first_state T DLate_first_state
  obtain ⟨fEither_first_state, fdEither_first_state, DEither_first_state⟩ := T.d_Either_first_state
  have GEither_first_state : FnOk P w K mg base CX0 1 fEither_first_state fdEither_first_state ["self"] (spRule_first_state K) := okRule_first_state T DEither_first_state
  obtain ⟨fLagging_first_state, fdLagging_first_state, DLagging_first_state⟩ := T.d_Lagging_first_state
  have GLagging_first_state : FnOk P w K mg base CX0 1 fLagging_first_state fdLagging_first_state ["self"] (spLagging_first_state K) := okLagging_first_state T DLagging_first_state
  obtain ⟨fWorkers_first_state, fdWorkers_first_state, DWorkers_first_state⟩ := T.d_Workers_first_state
  have GWorkers_first_state : FnOk P w K mg base CX0 1 fWorkers_first_state fdWorkers_first_state ["self"] (spWorkers_first_state K) := okWorkers_first_state T DWorkers_first_state
  obtain ⟨fRule_steps, fdRule_steps, DRule_steps⟩ := T.d_Rule_steps
  have GRule_steps : FnOk P w K mg base CX0 2 fRule_steps fdRule_steps ["self", "state", "length"] (spRule_steps K) := okRule_steps T DRule_steps
  obtain ⟨fFromTop_steps, fdFromTop_steps, DFromTop_steps⟩ := T.d_FromTop_steps
  have GFromTop_steps : FnOk P w K mg base CX0 2 fFromTop_steps fdFromTop_steps ["self", "state", "length"] (spFromTop_steps K) := okFromTop_steps T DFromTop_steps
  obtain ⟨fFromMark_steps, fdFromMark_steps, DFromMark_steps⟩ := T.d_FromMark_steps
  have GFromMark_steps : FnOk P w K mg base CX0 2 fFromMark_steps fdFromMark_steps ["self", "state", "length"] (spFromMark_steps K) := okFromMark_steps T DFromMark_steps
  obtain ⟨fFromPoints_steps, fdFromPoints_steps, DFromPoints_steps⟩ := T.d_FromPoints_steps
  have GFromPoints_steps : FnOk P w K mg base CX0 2 fFromPoints_steps fdFromPoints_steps ["self", "state", "length"] (spFromPoints_steps K) := okFromPoints_steps T DFromPoints_steps
  obtain ⟨fLate_steps, fdLate_steps, DLate_steps⟩ := T.d_Late_steps
  have GLate_steps : FnOk P w K mg base CX0 2 fLate_steps fdLate_steps ["self", "state", "length"] (spLate_steps K) := okLate_steps T DLate_steps
  obtain ⟨fEither_steps, fdEither_steps, DEither_steps⟩ := T.d_Either_steps
  have GEither_steps : FnOk P w K mg base CX0 3 fEither_steps fdEither_steps ["self", "state", "length"] (spEither_steps K) := okEither_steps T DEither_steps
  obtain ⟨fLagging_steps, fdLagging_steps, DLagging_steps⟩ := T.d_Lagging_steps
  have GLagging_steps : FnOk P w K mg base CX0 1 fLagging_steps fdLagging_steps ["self", "state", "length"] (spLagging_steps K) := okLagging_steps T DLagging_steps
  obtain ⟨fWorkers_steps, fdWorkers_steps, DWorkers_steps⟩ := T.d_Workers_steps
  have GWorkers_steps : FnOk P w K mg base CX0 2 fWorkers_steps fdWorkers_steps ["self", "state", "length"] (spWorkers_steps K) := okWorkers_steps T DWorkers_steps
  obtain ⟨fRule_is_end, fdRule_is_end, DRule_is_end⟩ := T.d_Rule_is_end
  have GRule_is_end : FnOk P w K mg base CX0 1 fRule_is_end fdRule_is_end ["self", "state", "length"] (spRule_is_end K) := okRule_is_end T DRule_is_end
  obtain ⟨fFromTop_is_end, fdFromTop_is_end, DFromTop_is_end⟩ := T.d_FromTop_is_end
  have GFromTop_is_end : FnOk P w K mg base CX0 1 fFromTop_is_end fdFromTop_is_end ["self", "state", "length"] (spRule_is_end K) := okRule_is_end T DFromTop_is_end
  obtain ⟨fFromMark_is_end, fdFromMark_is_end, DFromMark_is_end⟩ := T.d_FromMark_is_end
  have GFromMark_is_end : FnOk P w K mg base CX0 1 fFromMark_is_end fdFromMark_is_end ["self", "state", "length"] (spRule_is_end K) := okRule_is_end T DFromMark_is_end
  obtain ⟨fFromPoints_is_end, fdFromPoints_is_end, DFromPoints_is_end⟩ := T.d_FromPoints_is_end
  have GFromPoints_is_end : FnOk P w K mg base CX0 1 fFromPoints_is_end fdFromPoints_is_end ["self", "state", "length"] (spRule_is_end K) := okRule_is_end T DFromPoints_is_end
  obtain ⟨fLate_is_end, fdLate_is_end, DLate_is_end⟩ := T.d_Late_is_end
  have GLate_is_end : FnOk P w K mg base CX0 1 fLate_is_end fdLate_is_end ["self", "state", "length"] (spRule_is_end K) := okRule_is_end T DLate_is_end
  obtain ⟨fEither_is_end, fdEither_is_end, DEither_is_end⟩ := T.d_Either_is_end
  have GEither_is_end : FnOk P w K mg base CX0 1 fEither_is_end fdEither_is_end ["self", "state", "length"] (spRule_is_end K) := okRule_is_end T DEither_is_end
  obtain ⟨fLagging_is_end, fdLagging_is_end, DLagging_is_end⟩ := T.d_Lagging_is_end
  have GLagging_is_end : FnOk P w K mg base CX0 1 fLagging_is_end fdLagging_is_end ["self", "state", "length"] (spLagging_is_end K) := okLagging_is_end T DLagging_is_end
  obtain ⟨fWorkers_is_end, fdWorkers_is_end, DWorkers_is_end⟩ := T.d_Workers_is_end
  have GWorkers_is_end : FnOk P w K mg base CX0 1 fWorkers_is_end fdWorkers_is_end ["self", "state", "length"] (spWorkers_is_end K) := okWorkers_is_end T DWorkers_is_end
  refine D.F.ok sc_law_run_ends (fun vs H Q E h => ?_) (fun cdv A outer s H vs Q E hr h => ?_)
  · obtain ⟨B, a, r, len, drawn, rfl, _⟩ := h
    rfl
  · obtain ⟨B, a, r, len, drawn, rfl, hB, i0, hs, ok, l4, l60, d60, q⟩ := h
    have s1 := sizeK_pos ok
    refine ⟨_, (pss_cons (ps_set (i := 4) sc_law_run_ends.nd rfl (.inl rfl) (pe_call G_law_made hr (by rfl) D_law_made.g D_law_made.F.kp D_law_made.b .nil pass0 (pa_cons (pv 1) pa_nil)))
    (pss_cons (ps_set (i := 5) sc_law_run_ends.nd rfl (.inl rfl) (pe_cutX (pe_alt (pe_meth0 (pv 4) T.c_Rule.cls DRule_first_state.m GRule_first_state (hr.mono (by decide)) DRule_first_state.b .nil pass0) (pe_alt (pe_meth0 (pv 4) T.c_FromTop.cls DFromTop_first_state.m GFromTop_first_state (hr.mono (by decide)) DFromTop_first_state.b .nil pass0) (pe_alt (pe_meth0 (pv 4) T.c_FromMark.cls DFromMark_first_state.m GFromMark_first_state (hr.mono (by decide)) DFromMark_first_state.b .nil pass0) (pe_alt (pe_meth0 (pv 4) T.c_FromPoints.cls DFromPoints_first_state.m GFromPoints_first_state (hr.mono (by decide)) DFromPoints_first_state.b .nil pass0) (pe_alt (pe_meth0 (pv 4) T.c_Late.cls DLate_first_state.m GLate_first_state (hr.mono (by decide)) DLate_first_state.b .nil pass0) (pe_alt (pe_meth0 (pv 4) T.c_Either.cls DEither_first_state.m GEither_first_state (hr.mono (by decide)) DEither_first_state.b .nil pass0) (pe_alt (pe_meth0 (pv 4) T.c_Lagging.cls DLagging_first_state.m GLagging_first_state (hr.mono (by decide)) DLagging_first_state.b .nil pass0) (pe_meth0 (pv 4) T.c_Workers.cls DWorkers_first_state.m GWorkers_first_state (hr.mono (by decide)) DWorkers_first_state.b .nil pass0))))))))))
    (pss_cons (ps_if (pt_cmpR (op_neD hr.units) (pv 5) (pe_op (r := rRepO K) op_repO (pe_tupG (pa_cons pe_int pa_nil)) (pe_call G_law_size (hr.mono (by decide)) (by rfl) D_law_size.g D_law_size.F.kp D_law_size.b .nil pass0 (pa_cons (pv 1) pa_nil))) (nomark _)) (pss_one (ps_ret pe_non)) pss_nil)
    (pss_cons (ps_set (i := 6) sc_law_run_ends.nd rfl (.inl rfl) (pe_lst pa_nil))
    (pss_cons (ps_set (i := 7) sc_law_run_ends.nd rfl (.inl rfl) pe_int)
    (pss_cons (ps_for PassesOwn.never rfl (pi_range1 (by rfl) T.b_range (pa_cons (pe_op op_add (pe_op op_add (pv 3) (pe_op op_mul (pv 2) (pe_call G_law_size (hr.mono (by decide)) (by rfl) D_law_size.g D_law_size.F.kp D_law_size.b .nil pass0 (pa_cons (pv 1) pa_nil)))) pe_int) pa_nil)) (pg_name (i := 8) sc_law_run_ends.nd rfl (.inl rfl)) (pss_cons (ps_set (i := 9) sc_law_run_ends.nd rfl (.inl rfl) (pe_call G_law_ended (hr.mono (by decide)) (by rfl) D_law_ended.g D_law_ended.F.kp D_law_ended.b .nil pass0 (pa_cons (pv 1) (pa_cons (pv 5) (pa_cons (pv 2) pa_nil)))))
    (pss_cons (ps_if (PW.pt (pw_or (pt_not (pt_val (pe_call G_law_is_truth (hr.mono (by decide)) (by rfl) D_law_is_truth.g D_law_is_truth.F.kp D_law_is_truth.b .nil pass0 (pa_cons (pe_cutX (pe_alt (pe_meth (pv 4) T.c_Rule.cls DRule_is_end.m GRule_is_end (hr.mono (by decide)) DRule_is_end.b .nil pass0 (pa_cons (pv 5) (pa_cons (pv 2) pa_nil))) (pe_alt (pe_meth (pv 4) T.c_FromTop.cls DFromTop_is_end.m GFromTop_is_end (hr.mono (by decide)) DFromTop_is_end.b .nil pass0 (pa_cons (pv 5) (pa_cons (pv 2) pa_nil))) (pe_alt (pe_meth (pv 4) T.c_FromMark.cls DFromMark_is_end.m GFromMark_is_end (hr.mono (by decide)) DFromMark_is_end.b .nil pass0 (pa_cons (pv 5) (pa_cons (pv 2) pa_nil))) (pe_alt (pe_meth (pv 4) T.c_FromPoints.cls DFromPoints_is_end.m GFromPoints_is_end (hr.mono (by decide)) DFromPoints_is_end.b .nil pass0 (pa_cons (pv 5) (pa_cons (pv 2) pa_nil))) (pe_alt (pe_meth (pv 4) T.c_Late.cls DLate_is_end.m GLate_is_end (hr.mono (by decide)) DLate_is_end.b .nil pass0 (pa_cons (pv 5) (pa_cons (pv 2) pa_nil))) (pe_alt (pe_meth (pv 4) T.c_Either.cls DEither_is_end.m GEither_is_end (hr.mono (by decide)) DEither_is_end.b .nil pass0 (pa_cons (pv 5) (pa_cons (pv 2) pa_nil))) (pe_alt (pe_meth (pv 4) T.c_Lagging.cls DLagging_is_end.m GLagging_is_end (hr.mono (by decide)) DLagging_is_end.b .nil pass0 (pa_cons (pv 5) (pa_cons (pv 2) pa_nil))) (pe_meth (pv 4) T.c_Workers.cls DWorkers_is_end.m GWorkers_is_end (hr.mono (by decide)) DWorkers_is_end.b .nil pass0 (pa_cons (pv 5) (pa_cons (pv 2) pa_nil))))))))))) (pa_cons (pv 9) pa_nil))))) (pw_or1 (PW.pt (pw_and (pt_val (pv 9)) (pw_and1 (pt_cmpR op_ne (pv 7) (pv 2) (nomark _)))))))) (pss_one (ps_ret pe_non)) pss_nil)
    (pss_cons (ps_if (PW.pt (pw_and (pt_val (pv 9)) (pw_and1 (pt_cmpR op_ge (pv 8) (pv 3) (nomark _))))) (pss_one (ps_ret (pv 6))) pss_nil)
    (pss_cons (ps_set (i := 10) sc_law_run_ends.nd rfl (.inl rfl) (pe_cutX (pe_alt (pe_meth (pv 4) T.c_Rule.cls DRule_steps.m GRule_steps (hr.mono (by decide)) DRule_steps.b .nil pass0 (pa_cons (pv 5) (pa_cons (pv 2) pa_nil))) (pe_alt (pe_meth (pv 4) T.c_FromTop.cls DFromTop_steps.m GFromTop_steps (hr.mono (by decide)) DFromTop_steps.b .nil pass0 (pa_cons (pv 5) (pa_cons (pv 2) pa_nil))) (pe_alt (pe_meth (pv 4) T.c_FromMark.cls DFromMark_steps.m GFromMark_steps (hr.mono (by decide)) DFromMark_steps.b .nil pass0 (pa_cons (pv 5) (pa_cons (pv 2) pa_nil))) (pe_alt (pe_meth (pv 4) T.c_FromPoints.cls DFromPoints_steps.m GFromPoints_steps (hr.mono (by decide)) DFromPoints_steps.b .nil pass0 (pa_cons (pv 5) (pa_cons (pv 2) pa_nil))) (pe_alt (pe_meth (pv 4) T.c_Late.cls DLate_steps.m GLate_steps (hr.mono (by decide)) DLate_steps.b .nil pass0 (pa_cons (pv 5) (pa_cons (pv 2) pa_nil))) (pe_alt (pe_meth (pv 4) T.c_Either.cls DEither_steps.m GEither_steps (hr.mono (by decide)) DEither_steps.b .nil pass0 (pa_cons (pv 5) (pa_cons (pv 2) pa_nil))) (pe_alt (pe_meth (pv 4) T.c_Lagging.cls DLagging_steps.m GLagging_steps (hr.mono (by decide)) DLagging_steps.b .nil pass0 (pa_cons (pv 5) (pa_cons (pv 2) pa_nil))) (pe_meth (pv 4) T.c_Workers.cls DWorkers_steps.m GWorkers_steps (hr.mono (by decide)) DWorkers_steps.b .nil pass0 (pa_cons (pv 5) (pa_cons (pv 2) pa_nil))))))))))))
    (pss_cons (ps_if (PW.pt (pw_or (pt_not (pt_val (pe_call G_law_are_steps (hr.mono (by decide)) (by rfl) D_law_are_steps.g D_law_are_steps.F.kp D_law_are_steps.b .nil pass0 (pa_cons (pv 10) (pa_cons (pe_call G_law_size (hr.mono (by decide)) (by rfl) D_law_size.g D_law_size.F.kp D_law_size.b .nil pass0 (pa_cons (pv 1) pa_nil)) pa_nil))))) (pw_or1 (PW.pt (pw_and (pt_not (pt_truQ (pv 10) (by intro _; rfl))) (pw_and1 (pt_not (pt_val (pv 9))))))))) (pss_one (ps_ret pe_non)) pss_nil)
    (pss_cons (ps_if (pt_not (pt_truQ (pv 10) (by intro _; rfl))) (pss_one (ps_ret (pv 6))) pss_nil)
    (pss_cons (ps_set (i := 11) sc_law_run_ends.nd rfl (.inl rfl) (pe_ix (r := rIxL K) ix_list (pv 10) pe_int (fun _ _ => rfl)))
    (C8.pss_cut (ps_if (pt_cmpR op_lt (pv 8) (pv 3) (nomark _)) (pss_one (ps_set (i := 11) sc_law_run_ends.nd rfl (.inl rfl) (pe_ix (r := rIxL K) ix_list (pv 10) (pe_op op_mul (pe_call G_law_draw (hr.mono (by decide)) (by rfl) D_law_draw.g D_law_draw.F.kp D_law_draw.b .nil pass0 (pa_cons (pv 0) (pa_cons (pe_callB (r := rLenQ K) call_lenQ (by rfl) T.b_len PySem.boot_len (pa_cons (pv 10) pa_nil)) pa_nil))) (pe_callTy (r := rIntB) call_intB (by rfl) T.b_int (by decide +kernel) (pa_cons (pe_cmpR op_gt (pe_call G_law_draw (hr.mono (by decide)) (by rfl) D_law_draw.g D_law_draw.F.kp D_law_draw.b .nil pass0 (pa_cons (pv 0) (pa_cons pe_int pa_nil))) pe_int (nomark _)) pa_nil))) (fun _ _ => rfl)))) pss_nil)
    (pss_cons (ps_if (PW.pt (pw_or (pt_cmpR op_gt (pe_ix (r := rIxT K) ix_tup (pv 11) pe_int (fun _ _ => rfl)) (pv 7) (nomark _)) (pw_or1 (pt_cmpR op_ge (pe_ix (r := rIxT K) ix_tup (pv 11) pe_int (fun _ _ => rfl)) (pv 2) (nomark _))))) (pss_one (ps_ret pe_non)) pss_nil)
    (pss_cons (ps_set (i := 7) sc_law_run_ends.nd rfl (.inl rfl) (pe_callB (r := rMaxQ) (call_maxQ rfl) (by rfl) T.b_max (by decide +kernel) (pa_cons (pv 7) (pa_cons (pe_op op_add (pe_ix (r := rIxT K) ix_tup (pv 11) pe_int (fun _ _ => rfl)) pe_int) pa_nil))))
    (pss_cons (ps_expr (pe_bm PySem.F.plainAttrs_list PySem.F.slot_list_append PySem.F.type_list_append mt_append (pv 6) (pa_cons (pv 11) pa_nil)))
    (pss_one (ps_set (i := 5) sc_law_run_ends.nd rfl (.inl rfl) (pe_ix (r := rIxT K) ix_tup (pv 11) pe_int (fun _ _ => rfl))))))))))))))))
    (pss_one (ps_ret pe_non)))))))), ?_⟩
    walk_at "rx"
    refine ⟨a, r, B.m, rfl, hs, ok, l4, fun H1 x S1 hx => ?_⟩
    walk_at "rx"
    refine ⟨_, dispF4 rfl hx ok, ?_⟩
    rintro v1 H2 ⟨b0, rfl, S2, hb0⟩
    walk_at "rx"
    refine rd_newS [0] rfl fun H3 z S3 n3 h3 => ?_
    walk_at "rx"
    have S13 := (S1.trans S2).trans S3
    refine ⟨a, r, B.m, rfl, hs.same S13, ?_⟩
    have sz : sizeK r ≤ 3 := by
      cases r with
      | r x => cases x <;> (show _ ≤ 3; first | exact (by decide : (2 : Nat) ≤ 3) | exact (by decide : (1 : Nat) ≤ 3))
      | w c => exact ok.2
    refine rd_rep0 h3 s1 (by omega) fun H4 y S4 h4 => ?_
    refine rd_ned ((hb0.same (S3.trans S4)).dp (K := K)) (by rw [first_rep]; exact .tup h4.sq (dp_ints _)) (k := 1) (Sh.tuple fun d hd => by obtain ⟨i, _, rfl⟩ := List.mem_map.mp hd; exact Sh.int _) (by decide) ?_
    refine ⟨false, rfl, ?_⟩
    show if false = true then _ else _
    walk_at "rx"
    have S14 := S13.trans S4
    refine rd_newQ (Nat.zero_le _) fun H5 Ru S5 nRu hRu => ?_
    have w5 := (Wg.refl i0).same (S14.trans S5)
    have mRu : Ru ∉ B.m := B.nem ((Wg.refl i0).same S14).i1 nRu
    have nRu0 := ((Wg.refl i0).same S14).free nRu
    have em : (len : Int) * ((sizeK r : Nat) : Int) = ((len * sizeK r : Nat) : Int) := by simp
    have em2 := Nat.mul_le_mul l60 sz
    have hrk : -100000 ≤ (drawn : Int) + (len : Int) * ((sizeK r : Nat) : Int) + 1 ∧ (drawn : Int) + (len : Int) * ((sizeK r : Nat) : Int) + 1 ≤ 100000 := by rw [em]; omega
    walk_at "rx"
    refine ⟨a, r, B.m, rfl, hs.same (S14.trans S5), ?_⟩
    refine rd_I (show CMul _ _ from .inl ⟨by omega, by omega⟩) ?_
    walk_at "rx"
    refine fr_rng0 (fun i σ' H' => ∃ (b : Addr) (st : List Nat) (m : Nat) (ps : List Addr) (ss : List Stp) (y8 y9 y10 y11 : Option V), σ' = [some (.ref B.b), some (.ref a), some (.int (len : Int)), some (.int (drawn : Int)), some (.ref x), some (.ref b), some (.ref Ru), some (.int (m : Int)), y8, y9, y10, y11] ∧ Wg B H H' ∧ H' Ru = some (.lst (ps.map V.ref)) ∧ EsAt r H' ps ss ∧ TAt r H' b st ∧ KRt K H' x r ∧ CK r len (firstK r) 0 ss st m ∧ ss.length = i ∧ Up r drawn i st) ⟨b0, firstK r, 0, [], [], none, none, none, none, rfl, w5, hRu, .nil, hb0.same ((S3.trans S4).trans S5), hx.same (((S2.trans S3).trans S4).trans S5), ⟨rfl, rfl⟩, rfl, Nat.zero_le _⟩ ?_ ?_
    · rintro i σ H6 hi ⟨b, st, m, ps, ss, y8, y9, y10, y11, rfl, w6, h6, t6, hb6, hx6, ch, lss, up⟩
      obtain ⟨v6, hm6, ml6, mf6, lo6, _⟩ := CK.good ok l60 (first_okK r len) (first_pos r) (Nat.zero_le _) ch
      have lps := t6.1
      walk_at "rx"
      refine ⟨a, b, r, B.m, st, len, rfl, hs.kp (KpM.wg w6), hb6, v6, ?_⟩
      walk_at "rx"
      refine ⟨_, dispE4 rfl rfl rfl hb6 v6 hx6, ?_⟩
      rintro v7 H7 ⟨rfl, S7⟩
      walk_at "rx"
      refine ⟨endK r st len, rfl, ?_⟩
      refine ⟨true, rfl, ?_⟩
      show if false = true then _ else _
      have w7 := w6.same S7
      have h7 := S7 _ _ h6
      have t7 := t6.same S7
      have hb7 := hb6.same S7
      have hx7 := hx6.same S7
      cases ze : endK r st len with
      | true =>
        have em7 : m = len := end_many hm6 ml6 ze
        subst em7
        walk_at "rx"
        rw [decide_eq_true (rfl : V.int (m : Int) = V.int (m : Int))]
        show if false = true then _ else _
        walk_at "rx"
        refine ite2 (fun zk => ?_) (fun zk => ?_)
        · walk_at "rx"
          exact q H7 Ru ps ss st w7 mRu h7 t7 ch ze (by rw [lss]; rw [em] at hi; omega)
        · walk_at "rx"
          refine ⟨_, dispS4 rfl rfl rfl hx7 ok hb7 v6 l60, ?_⟩
          rintro v8 H8 ⟨T, qs, rfl, S8, nT, hT, tq⟩
          have w8 := w7.same S8
          have mT : T ∉ B.m := B.nem w7.i1 nT
          have sl := steps_lenK ok l60 v6
          have lq := tq.1
          walk_at "rx"
          refine ⟨a, r, B.m, rfl, hs.kp (KpM.wg w8), ?_⟩
          walk_at "rx"
          refine ⟨T, qs, r, stepsK r st m, sizeK r, rfl, hT, tq, fun s hs => (step_okK ok l60 v6 hs).size, fun s hs => (line_ok v6 hm6 hs).1, ?_⟩
          refine ⟨true, rfl, ?_⟩
          show if false = true then _ else _
          walk_at "rx"
          cases hq : qs with
          | nil =>
            show if true = true then _ else _
            walk_at "rx"
            rw [show (!!(List.map V.ref qs).isEmpty) = true from by rw [hq]; rfl]
            show if true = true then _ else _
            walk_at "rx"
            exact q _ Ru ps ss st w8 mRu (S8 _ _ h7) (t7.same S8) ch ze (by rw [lss]; omega)
          | cons q0 qr =>
            show if false = true then _ else _
            walk_at "rx"
            rw [show (!!(List.map V.ref qs).isEmpty) = false from by rw [hq]; rfl]
            show if false = true then _ else _
            have ql : 0 < (stepsK r st m).length := by rw [← lq, hq, List.length_cons]; omega
            have zz : i < drawn ∨ (posK r ((stepsK r st m)[0]).2).sum = (posK r st).sum + 1 := .inl (by have : ¬ ((drawn : Int) ≤ (i : Int)) := fun h => zk (decide_eq_true h); omega)
            have l0 : (ps.map V.ref).length < 1000 := by rw [List.length_map, lps, lss]; omega
            obtain ⟨p0, e1, e2⟩ := tq.at ql
            walk_at "rx"
            refine rd_ixL (SqL.of hT) (show atI (qs.map V.ref) ((0 : Nat) : Int) = some (.ref p0) from atI_nat (by rw [List.getElem?_map, e1]; rfl)) ?_
            walk_at "rx"
            refine ⟨fun σ' H' => ∃ (p : Addr) (s : Stp), σ' = [some (.ref B.b), some (.ref a), some (.int (m : Int)), some (.int (drawn : Int)), some (.ref x), some (.ref b), some (.ref Ru), some (.int (m : Int)), some (.int (i : Int)), some (.bl true), some (.ref T), some (.ref p)] ∧ Wg B H8 H' ∧ EAt r H' p s ∧ s ∈ stepsK r st m ∧ (i < drawn ∨ (posK r s.2).sum = (posK r st).sum + 1), ?_, ?_⟩
            · walk_at "rx"
              refine ite2 (fun zd => ?_) (fun zd => ?_)
              · have zd2 : i < drawn := by have : (i : Int) < (drawn : Int) := of_decide_eq_true zd; omega
                walk_at "rx"
                refine ⟨B, _, rfl, hB, w8.i1, by rw [List.length_map]; omega, by rw [List.length_map]; omega, fun H9 e w9 he => ?_⟩
                rw [List.length_map] at he
                walk_at "rx"
                refine ⟨B, 3, rfl, hB, (w8.trans w9).i1, by decide, by decide, fun Ha f wa hf => ?_⟩
                walk_at "rx"
                refine rd_intB ?_
                refine rd_I (show CMul _ _ from .inl ⟨by omega, by omega⟩) ?_
                obtain ⟨j, ej, lj⟩ : ∃ j : Nat, (e : Int) * (if decide ((0 : Int) < (f : Int)) = true then 1 else 0) = (j : Int) ∧ j < qs.length := by
                  split
                  · exact ⟨e, by omega, by omega⟩
                  · exact ⟨0, by omega, by omega⟩
                rw [ej]
                have hTa := (w9.trans wa).lst mT hT
                have tqa := tq.ko (Ko.wg (w9.trans wa))
                obtain ⟨p, e3, e4⟩ := tqa.at (show j < (stepsK r st m).length by omega)
                refine rd_ixL (SqL.of hTa) (show atI (qs.map V.ref) (j : Int) = some (.ref p) from atI_nat (by rw [List.getElem?_map, e3]; rfl)) ?_
                walk_at "rx"
                exact ⟨p, _, rfl, w9.trans wa, e4, List.getElem_mem _, .inl zd2⟩
              · walk_at "rx"
                exact ⟨p0, _, rfl, Wg.refl w8.i1, e2, List.getElem_mem _, zz⟩
            · rintro σ' H9 ⟨p, s, rfl, w9, ep, sm, up9⟩
              have w09 := w8.trans w9
              have h9 := w9.lst mRu (S8 _ _ h7)
              obtain ⟨u, hp, hu⟩ := ep
              walk_at "rx"
              obtain ⟨k1, k2, k3, k4⟩ := line_ok v6 hm6 sm
              rw [decide_eq_false (show ¬ ((m : Int) < s.1) by omega)]
              show if false = true then _ else _
              walk_at "rx"
              rw [decide_eq_false (show ¬ ((m : Int) ≤ s.1) by omega)]
              show if false = true then _ else _
              walk_at "rx"
              have em9 : (if s.1 + 1 > (m : Int) then s.1 + 1 else (m : Int)) = ((nx m s : Nat) : Int) := by
                unfold nx
                split <;> omega
              rw [em9]
              have kj := Ki.mut (o := .lst (ps.map V.ref ++ [.ref p])) h9
              have hp2 := kj.kt _ _ hp
              walk_at "rx"
              exact ⟨u, s.2, nx m s, ps ++ [p], ss ++ [s], _, _, _, _, rfl, (w09.mut nRu0), by rw [upd_same, List.map_append]; rfl, ((t7.ko (Ko.wg (Wg.same (Wg.refl w7.i1) S8 |>.trans w9))).ko kj.ko).snoc ⟨u, hp2, hu.ko kj.ko⟩, hu.ko kj.ko, ((hx7.same S8).ki (Ki.wg w9)).ki kj, ch.snoc sm, by rw [List.length_append, lss]; rfl, up.next up9⟩
      | false =>
        walk_at "rx"
        refine ⟨_, dispS4 rfl rfl rfl hx7 ok hb7 v6 l60, ?_⟩
        rintro v8 H8 ⟨T, qs, rfl, S8, nT, hT, tq⟩
        have w8 := w7.same S8
        have mT : T ∉ B.m := B.nem w7.i1 nT
        have sl := steps_lenK ok l60 v6
        have lq := tq.1
        walk_at "rx"
        refine ⟨a, r, B.m, rfl, hs.kp (KpM.wg w8), ?_⟩
        walk_at "rx"
        refine ⟨T, qs, r, stepsK r st len, sizeK r, rfl, hT, tq, fun s hs => (step_okK ok l60 v6 hs).size, fun s hs => (line_ok v6 hm6 hs).1, ?_⟩
        refine ⟨true, rfl, ?_⟩
        show if false = true then _ else _
        walk_at "rx"
        cases hq : qs with
        | nil =>
          exfalso
          obtain ⟨⟨s, r0, e1, _⟩, _⟩ := go_on ok v6 ze
          rw [hq, e1] at lq
          simp at lq
        | cons q0 qr =>
          show if false = true then _ else _
          walk_at "rx"
          rw [show (!!(List.map V.ref qs).isEmpty) = false from by rw [hq]; rfl]
          show if false = true then _ else _
          have ql : 0 < (stepsK r st len).length := by rw [← lq, hq, List.length_cons]; omega
          have zz : i < drawn ∨ (posK r ((stepsK r st len)[0]).2).sum = (posK r st).sum + 1 := .inr (by
            obtain ⟨⟨s, r0, e1, e2⟩, _⟩ := go_on ok v6 ze
            have : (stepsK r st len)[0] = s := by simp only [e1]; rfl
            rw [this]; exact e2)
          have l0 : (ps.map V.ref).length < 1000 := by rw [List.length_map, lps, lss]; omega
          obtain ⟨p0, e1, e2⟩ := tq.at ql
          walk_at "rx"
          refine rd_ixL (SqL.of hT) (show atI (qs.map V.ref) ((0 : Nat) : Int) = some (.ref p0) from atI_nat (by rw [List.getElem?_map, e1]; rfl)) ?_
          walk_at "rx"
          refine ⟨fun σ' H' => ∃ (p : Addr) (s : Stp), σ' = [some (.ref B.b), some (.ref a), some (.int (len : Int)), some (.int (drawn : Int)), some (.ref x), some (.ref b), some (.ref Ru), some (.int (m : Int)), some (.int (i : Int)), some (.bl false), some (.ref T), some (.ref p)] ∧ Wg B H8 H' ∧ EAt r H' p s ∧ s ∈ stepsK r st len ∧ (i < drawn ∨ (posK r s.2).sum = (posK r st).sum + 1), ?_, ?_⟩
          · walk_at "rx"
            refine ite2 (fun zd => ?_) (fun zd => ?_)
            · have zd2 : i < drawn := by have : (i : Int) < (drawn : Int) := of_decide_eq_true zd; omega
              walk_at "rx"
              refine ⟨B, _, rfl, hB, w8.i1, by rw [List.length_map]; omega, by rw [List.length_map]; omega, fun H9 e w9 he => ?_⟩
              rw [List.length_map] at he
              walk_at "rx"
              refine ⟨B, 3, rfl, hB, (w8.trans w9).i1, by decide, by decide, fun Ha f wa hf => ?_⟩
              walk_at "rx"
              refine rd_intB ?_
              refine rd_I (show CMul _ _ from .inl ⟨by omega, by omega⟩) ?_
              obtain ⟨j, ej, lj⟩ : ∃ j : Nat, (e : Int) * (if decide ((0 : Int) < (f : Int)) = true then 1 else 0) = (j : Int) ∧ j < qs.length := by
                split
                · exact ⟨e, by omega, by omega⟩
                · exact ⟨0, by omega, by omega⟩
              rw [ej]
              have hTa := (w9.trans wa).lst mT hT
              have tqa := tq.ko (Ko.wg (w9.trans wa))
              obtain ⟨p, e3, e4⟩ := tqa.at (show j < (stepsK r st len).length by omega)
              refine rd_ixL (SqL.of hTa) (show atI (qs.map V.ref) (j : Int) = some (.ref p) from atI_nat (by rw [List.getElem?_map, e3]; rfl)) ?_
              walk_at "rx"
              exact ⟨p, _, rfl, w9.trans wa, e4, List.getElem_mem _, .inl zd2⟩
            · walk_at "rx"
              exact ⟨p0, _, rfl, Wg.refl w8.i1, e2, List.getElem_mem _, zz⟩
          · rintro σ' H9 ⟨p, s, rfl, w9, ep, sm, up9⟩
            have w09 := w8.trans w9
            have h9 := w9.lst mRu (S8 _ _ h7)
            obtain ⟨u, hp, hu⟩ := ep
            walk_at "rx"
            obtain ⟨k1, k2, k3, k4⟩ := line_ok v6 hm6 sm
            rw [decide_eq_false (show ¬ ((m : Int) < s.1) by omega)]
            show if false = true then _ else _
            walk_at "rx"
            rw [decide_eq_false (show ¬ ((len : Int) ≤ s.1) by omega)]
            show if false = true then _ else _
            walk_at "rx"
            have em9 : (if s.1 + 1 > (m : Int) then s.1 + 1 else (m : Int)) = ((nx m s : Nat) : Int) := by
              unfold nx
              split <;> omega
            rw [em9]
            have kj := Ki.mut (o := .lst (ps.map V.ref ++ [.ref p])) h9
            have hp2 := kj.kt _ _ hp
            walk_at "rx"
            exact ⟨u, s.2, nx m s, ps ++ [p], ss ++ [s], _, _, _, _, rfl, (w09.mut nRu0), by rw [upd_same, List.map_append]; rfl, ((t7.ko (Ko.wg (Wg.same (Wg.refl w7.i1) S8 |>.trans w9))).ko kj.ko).snoc ⟨u, hp2, hu.ko kj.ko⟩, hu.ko kj.ko, ((hx7.same S8).ki (Ki.wg w9)).ki kj, ch.snoc sm, by rw [List.length_append, lss]; rfl, up.next up9⟩
    · rintro σ H6 ⟨b, st, m, ps, ss, y8, y9, y10, y11, rfl, w6, h6, t6, hb6, hx6, ch, lss, up⟩
      exfalso
      have v6 := (CK.good ok l60 (first_okK r len) (first_pos r) (Nat.zero_le _) ch).1
      have sl := sum_le ok v6
      unfold Up at up
      rw [em] at up
      omega
def spRule_is_restart (_K : PySem.W.Frag) : Sp := fun vs H Q _ => ∃ (p : Addr) (n : Int) (x : V), vs = [.ref p] ∧ H p = some (.tup [.int n, x]) ∧ Q (.bl (decide (n = -1))) H
set_option maxHeartbeats 4000000 in
theorem okRule_is_restart (T : Top K mg) {f : Addr} {fd : FuncData} (D : SDef K (atTop K "Rule") "is_restart" "Rule.is_restart" sRule_is_restart ["step"] f fd) : FnOk P w K mg base CX0 1 f fd ["step"] (spRule_is_restart K) := by
  refine D.F.ok scRule_is_restart (fun vs H Q E h => ?_) (fun cdv A outer s H vs Q E hr h => ?_)
  · obtain ⟨p, n, x, rfl, _⟩ := h
    rfl
  · obtain ⟨p, n, x, rfl, hp, q⟩ := h
    obtain ⟨cr, u, cv⟩ := T.v_Rule_RESTART
    refine ⟨_, (pss_one (ps_ret (pe_cmpR op_eq (pe_ix (r := rIxT K) ix_tup (pv 0) pe_int (fun _ _ => rfl)) (pe_cvalK (K := K) rfl (pe_glob (v := .ref (atTop K "Rule")) (by rfl) T.c_Rule.g rfl) rfl) (nomark _)))), ?_⟩
    walk_at "rx"
    refine rd_Cv cr cv ?_
    walk_at "rx"
    rw [decI]
    exact q
def spexecuted (K : PySem.W.Frag) : Sp := fun vs H Q _ => ∃ (l : Addr) (ps : List Addr) (r : Kd) (ss : List Stp), vs = [.ref l] ∧ H l = some (.lst (ps.map V.ref)) ∧ EsAt r H ps ss ∧ (∀ s ∈ ss, -1 ≤ s.1) ∧ ss.length ≤ 900 ∧ ∀ H' a, Same H H' → H' a = some (.tup ((lnz ss).map V.int)) → Q (.ref a) H'
set_option maxHeartbeats 4000000 in
theorem okexecuted (T : Top K mg) {f : Addr} {fd : FuncData} (D : Def K mg "executed" sexecuted ["run"] f fd) : FnOk P w K mg base CX0 2 f fd ["run"] (spexecuted K) := by
  obtain ⟨fRule_is_restart, fdRule_is_restart, DRule_is_restart⟩ := T.d_Rule_is_restart
  have GRule_is_restart : FnOk P w K mg base CX0 1 fRule_is_restart fdRule_is_restart ["step"] (spRule_is_restart K) := okRule_is_restart T DRule_is_restart
  obtain ⟨pRule_is_restart, SRule_is_restart⟩ := DRule_is_restart.s
  refine D.F.ok scexecuted (fun vs H Q E h => ?_) (fun cdv A outer s H vs Q E hr h => ?_)
  · obtain ⟨l, ps, r, ss, rfl, _⟩ := h
    rfl
  · obtain ⟨l, ps, r, ss, rfl, hl, ts, lo, l9, q⟩ := h
    have lp := ts.1
    refine ⟨_, (pss_one (ps_ret (pe_callTy (r := rTupQ K) call_tupQ (by rfl) T.b_tuple (by decide +kernel) (pa_cons (pe_lc (own := [("step", 1)]) (g := gName 1) (tt := _) rfl scexecuted.nd (pi_list (pv 0))
      (blkOk_by (own := [("step", 1)]) (N := ["run", "step"]) (sc := defScope sexecuted) (by decide +kernel)) (fun _ _ _ _ _ => (pg_name (i := 1) scexecuted.nd rfl (.inl rfl))) (fun _ _ _ _ _ => pts_one (pt_not (pt_val (pe_smeth (pe_glob (v := .ref (atTop K "Rule")) (by rfl) T.c_Rule.g rfl) SRule_is_restart GRule_is_restart (hr.mono (by decide)) DRule_is_restart.b pass0 (pa_cons (pv 1) pa_nil)))))
      (fun _ _ _ _ _ => (pe_ix (r := rIxT K) ix_tup (pv 1) pe_int (fun _ _ => rfl)))) pa_nil)))), ?_⟩
    walk_at "rx"
    refine lc_acc (walk_list (xs := ps.map V.ref)) (fun i acc => acc = (lnz (ss.take i)).map V.int) rfl (fun i acc hi e => by
      rw [e, List.length_map]
      unfold lnz
      rw [List.length_map]
      have := List.length_filter_le (fun s : Stp => decide (0 ≤ s.1)) (ss.take i)
      rw [List.length_take] at this
      omega) (fun H' S => SqL.of (S _ _ hl)) ?_ ?_
    · rintro i x Hx Hy acc Qc R hi2 Sx rfl ⟨rfl, ex⟩ qc rc
      rw [List.length_map] at hi2
      have hil : i < ss.length := by omega
      obtain ⟨b, e1, e2⟩ := (ts.same Sx).at hil
      rw [List.getElem?_map, e1] at ex
      cases ex
      obtain ⟨u, hb, _⟩ := e2
      have tk : ss.take (i + 1) = ss.take i ++ [ss[i]] := by rw [List.take_succ, List.getElem?_eq_getElem hil]; rfl
      have l1 := lo ss[i] (List.getElem_mem hil)
      walk_at "rx"
      refine ⟨rfl, ?_⟩
      walk_at "rx"
      refine rd_smeth ?_
      walk_at "rx"
      refine ⟨rfl, ?_⟩
      walk_at "rx"
      refine ⟨b, ss[i].1, .ref u, rfl, hb, ?_⟩
      refine ⟨_, rfl, ?_⟩
      by_cases z : ss[i].1 = -1
      · rw [decide_eq_true z]
        show if false = true then _ else _
        refine rc _ (Same.refl _) ?_
        rw [tk]
        unfold lnz
        rw [List.filter_append, List.filter_cons, if_neg (by rw [decide_eq_true_eq, z]; omega), List.filter_nil, List.append_nil]
      · rw [decide_eq_false z]
        show if true = true then _ else _
        walk_at "rx"
        refine qc _ _ (Same.refl _) ?_
        rw [tk]
        unfold lnz
        rw [List.filter_append, List.filter_cons, if_pos (by rw [decide_eq_true_eq]; omega), List.filter_nil, List.map_append, List.map_append]
        rfl
    · intro H2 D acc S2 nD hD pp
      rw [List.length_map, lp, List.take_length] at pp
      subst pp
      walk_at "rx"
      have h9 : (lnz ss).length ≤ 900 := by
        unfold lnz
        rw [List.length_map]
        exact Nat.le_trans (List.length_filter_le _ _) l9
      have h10 : ((lnz ss).map V.int).length ≤ 1000 := by rw [List.length_map]; omega
      refine rd_newL fun H3 a S3 na ha => ?_
      exact q H3 a (S2.trans S3) ha
theorem dispS {K : PySem.W.Frag} {H : Hp} {σ : L2.St} {i j k : Nat} {r b : Addr} {R : Kd} {st : List Nat} {len : Nat} (h0 : σ[i]? = some (some (.ref r))) (h1 : σ[j]? = some (some (.ref b))) (h2 : σ[k]? = some (some (.int (len : Int))))
    (hr : KRt K H r R) (ok : KOk R) (hb : TAt R H b st) (v : RK.VK R len st) (l60 : len ≤ 60) :
    (tAlt (tMeth (atTop K "Rule") "steps" (spRule_steps K) [] E0 (tVar i) (tCons (tVar j) (tCons (tVar k) tNil))) (tAlt (tMeth (atTop K "FromTop") "steps" (spFromTop_steps K) [] E0 (tVar i) (tCons (tVar j) (tCons (tVar k) tNil))) (tAlt (tMeth (atTop K "FromMark") "steps" (spFromMark_steps K) [] E0 (tVar i) (tCons (tVar j) (tCons (tVar k) tNil))) (tAlt (tMeth (atTop K "FromPoints") "steps" (spFromPoints_steps K) [] E0 (tVar i) (tCons (tVar j) (tCons (tVar k) tNil))) (tAlt (tMeth (atTop K "Late") "steps" (spLate_steps K) [] E0 (tVar i) (tCons (tVar j) (tCons (tVar k) tNil))) (tAlt (tMeth (atTop K "Either") "steps" (spEither_steps K) [] E0 (tVar i) (tCons (tVar j) (tCons (tVar k) tNil))) (tAlt (tMeth (atTop K "Lagging") "steps" (spLagging_steps K) [] E0 (tVar i) (tCons (tVar j) (tCons (tVar k) tNil))) (tMeth (atTop K "Workers") "steps" (spWorkers_steps K) [] E0 (tVar i) (tCons (tVar j) (tCons (tVar k) tNil)))))))))) σ H (fun v H' => ∃ l ps, v = .ref l ∧ Same H H' ∧ H l = none ∧ H' l = some (.lst (ps.map V.ref)) ∧ EsAt R H' ps (stepsK R st len)) := by
  have args : ∀ (R : List V → Hp → Prop), R [.ref b, .int (len : Int)] H → (tCons (tVar j) (tCons (tVar k) tNil)) σ H R := fun R q => ⟨_, h1, _, h2, q⟩
  cases R with
  | w c =>
    obtain ⟨dx, hi⟩ := hr
    refine rd_altR (rd_altR (rd_altR (rd_altR (rd_altR (rd_altR (rd_altR (rd_meth ⟨_, h0, ?_⟩)))))))
    refine rd_Mt hi rfl (args _ ?_)
    exact ⟨r, b, dx, c, st, len, rfl, hi, hb, by rw [v.1]; exact ok.2, v.2, fun H' l ps S nl hl t => ⟨l, ps, rfl, S, nl, hl, t⟩⟩
  | r x =>
    cases x with
    | lag n =>
      obtain ⟨p, hh, rfl, hp, h60⟩ := v
      obtain ⟨dx, hi⟩ := hr
      refine rd_altR (rd_altR (rd_altR (rd_altR (rd_altR (rd_altR (rd_altL (rd_meth ⟨_, h0, ?_⟩)))))))
      refine rd_Mt hi rfl (args _ ?_)
      exact ⟨r, b, dx, n, p, hh, len, rfl, hi, hb, ok, by omega, h60, fun H' l ps S nl hl t => ⟨l, ps, rfl, S, nl, hl, t⟩⟩
    | eit ls =>
      obtain ⟨p, rfl, hp⟩ := v
      have hr0 := hr
      obtain ⟨dx, t, as, hi, _⟩ := hr
      refine rd_altR (rd_altR (rd_altR (rd_altR (rd_altR (rd_altL (rd_meth ⟨_, h0, ?_⟩))))))
      refine rd_Mt hi rfl (args _ ?_)
      exact ⟨r, b, p, len, ls, rfl, hr0, ok, hb, by omega, fun H' l ps S nl hl t => ⟨l, ps, rfl, S, nl, hl, t⟩⟩
    | leaf l =>
      obtain ⟨p, rfl, hp⟩ := v
      have hr0 := hr
      cases l with
      | once =>
        obtain ⟨dx, hi⟩ := hr
        refine rd_altL (rd_meth ⟨_, h0, ?_⟩)
        refine rd_Mt hi rfl (args _ ?_)
        exact ⟨r, b, p, len, rfl, hb, fun H' l ps S nl hl t => ⟨l, ps, rfl, S, nl, hl, by
          show SsAt H' ps (ahd p len ++ [])
          rw [List.append_nil]
          exact t⟩⟩
      | top =>
        obtain ⟨dx, hi⟩ := hr
        refine rd_altR (rd_altL (rd_meth ⟨_, h0, ?_⟩))
        refine rd_Mt hi rfl (args _ ?_)
        exact ⟨r, b, p, len, rfl, hr0, ok, hb, by omega, fun H' l ps S nl hl t => ⟨l, ps, rfl, S, nl, hl, t⟩⟩
      | mark =>
        obtain ⟨dx, hi⟩ := hr
        refine rd_altR (rd_altR (rd_altL (rd_meth ⟨_, h0, ?_⟩)))
        refine rd_Mt hi rfl (args _ ?_)
        exact ⟨r, b, p, len, rfl, hr0, ok, hb, by omega, fun H' l ps S nl hl t => ⟨l, ps, rfl, S, nl, hl, t⟩⟩
      | pts nw ns =>
        obtain ⟨dx, t, hi, _⟩ := hr
        refine rd_altR (rd_altR (rd_altR (rd_altL (rd_meth ⟨_, h0, ?_⟩))))
        refine rd_Mt hi rfl (args _ ?_)
        exact ⟨r, b, p, len, nw, ns, rfl, hr0, ok, hb, by omega, fun H' l ps S nl hl t => ⟨l, ps, rfl, S, nl, hl, t⟩⟩
      | late o =>
        obtain ⟨dx, fs, hi, hfs⟩ : ∃ dx fs, H r = some (.ins (atTop K "Late") dx fs) ∧ fs.lookup ("steps" : Str) = none := by
          cases o with
          | none => obtain ⟨dx, h⟩ := hr; exact ⟨dx, _, h, rfl⟩
          | some ns => obtain ⟨dx, t0, h, _⟩ := hr; exact ⟨dx, _, h, rfl⟩
        refine rd_altR (rd_altR (rd_altR (rd_altR (rd_altL (rd_meth ⟨_, h0, ?_⟩)))))
        refine rd_Mt hi hfs (args _ ?_)
        exact ⟨r, b, p, len, o, rfl, hr0, ok, hb, by omega, fun H' l ps S nl hl t => ⟨l, ps, rfl, S, nl, hl, t⟩⟩
def sp_is_possible (K : PySem.W.Frag) : Sp := fun vs H Q _ => ∃ (r b p : Addr) (R : Kd) (st : List Nat) (s : Stp) (len : Nat), vs = [.ref r, .ref b, .ref p, .int (len : Int)] ∧ KRt K H r R ∧ KOk R ∧ TAt R H b st ∧ RK.VK R len st ∧ len ≤ 60 ∧ EAt R H p s ∧ s ∈ stepsK R st len ∧ ∀ H', Same H H' → Q (.bl true) H'
set_option maxHeartbeats 4000000 in
theorem ok_is_possible (T : Top K mg) {f : Addr} {fd : FuncData} (D : Def K mg "_is_possible" s_is_possible ["rule", "state", "step", "length"] f fd) : FnOk P w K mg base CX0 4 f fd ["rule", "state", "step", "length"] (sp_is_possible K) := by
  obtain ⟨fRule_steps, fdRule_steps, DRule_steps⟩ := T.d_Rule_steps
  have GRule_steps : FnOk P w K mg base CX0 2 fRule_steps fdRule_steps ["self", "state", "length"] (spRule_steps K) := okRule_steps T DRule_steps
  obtain ⟨fFromTop_steps, fdFromTop_steps, DFromTop_steps⟩ := T.d_FromTop_steps
  have GFromTop_steps : FnOk P w K mg base CX0 2 fFromTop_steps fdFromTop_steps ["self", "state", "length"] (spFromTop_steps K) := okFromTop_steps T DFromTop_steps
  obtain ⟨fFromMark_steps, fdFromMark_steps, DFromMark_steps⟩ := T.d_FromMark_steps
  have GFromMark_steps : FnOk P w K mg base CX0 2 fFromMark_steps fdFromMark_steps ["self", "state", "length"] (spFromMark_steps K) := okFromMark_steps T DFromMark_steps
  obtain ⟨fFromPoints_steps, fdFromPoints_steps, DFromPoints_steps⟩ := T.d_FromPoints_steps
  have GFromPoints_steps : FnOk P w K mg base CX0 2 fFromPoints_steps fdFromPoints_steps ["self", "state", "length"] (spFromPoints_steps K) := okFromPoints_steps T DFromPoints_steps
  obtain ⟨fLate_steps, fdLate_steps, DLate_steps⟩ := T.d_Late_steps
  have GLate_steps : FnOk P w K mg base CX0 2 fLate_steps fdLate_steps ["self", "state", "length"] (spLate_steps K) := okLate_steps T DLate_steps
  obtain ⟨fEither_steps, fdEither_steps, DEither_steps⟩ := T.d_Either_steps
  have GEither_steps : FnOk P w K mg base CX0 3 fEither_steps fdEither_steps ["self", "state", "length"] (spEither_steps K) := okEither_steps T DEither_steps
  obtain ⟨fLagging_steps, fdLagging_steps, DLagging_steps⟩ := T.d_Lagging_steps
  have GLagging_steps : FnOk P w K mg base CX0 1 fLagging_steps fdLagging_steps ["self", "state", "length"] (spLagging_steps K) := okLagging_steps T DLagging_steps
  obtain ⟨fWorkers_steps, fdWorkers_steps, DWorkers_steps⟩ := T.d_Workers_steps
  have GWorkers_steps : FnOk P w K mg base CX0 2 fWorkers_steps fdWorkers_steps ["self", "state", "length"] (spWorkers_steps K) := okWorkers_steps T DWorkers_steps
  refine D.F.ok sc_is_possible (fun vs H Q E h => ?_) (fun cdv A outer s H vs Q E hr h => ?_)
  · obtain ⟨r, b, p, R, st, s, len, rfl, _⟩ := h
    rfl
  · obtain ⟨r, b, p, R, st, s, len, rfl, hru, ok, hb, vst, l60, hs, m, q⟩ := h
    refine ⟨_, (pss_one (ps_ret (pe_cmpR (r := rInD K) (op_inD (units65 hr)) (pv 2) (pe_cutX (pe_alt (pe_meth (pv 0) T.c_Rule.cls DRule_steps.m GRule_steps (hr.mono (by decide)) DRule_steps.b .nil pass0 (pa_cons (pv 1) (pa_cons (pv 3) pa_nil))) (pe_alt (pe_meth (pv 0) T.c_FromTop.cls DFromTop_steps.m GFromTop_steps (hr.mono (by decide)) DFromTop_steps.b .nil pass0 (pa_cons (pv 1) (pa_cons (pv 3) pa_nil))) (pe_alt (pe_meth (pv 0) T.c_FromMark.cls DFromMark_steps.m GFromMark_steps (hr.mono (by decide)) DFromMark_steps.b .nil pass0 (pa_cons (pv 1) (pa_cons (pv 3) pa_nil))) (pe_alt (pe_meth (pv 0) T.c_FromPoints.cls DFromPoints_steps.m GFromPoints_steps (hr.mono (by decide)) DFromPoints_steps.b .nil pass0 (pa_cons (pv 1) (pa_cons (pv 3) pa_nil))) (pe_alt (pe_meth (pv 0) T.c_Late.cls DLate_steps.m GLate_steps (hr.mono (by decide)) DLate_steps.b .nil pass0 (pa_cons (pv 1) (pa_cons (pv 3) pa_nil))) (pe_alt (pe_meth (pv 0) T.c_Either.cls DEither_steps.m GEither_steps (hr.mono (by decide)) DEither_steps.b .nil pass0 (pa_cons (pv 1) (pa_cons (pv 3) pa_nil))) (pe_alt (pe_meth (pv 0) T.c_Lagging.cls DLagging_steps.m GLagging_steps (hr.mono (by decide)) DLagging_steps.b .nil pass0 (pa_cons (pv 1) (pa_cons (pv 3) pa_nil))) (pe_meth (pv 0) T.c_Workers.cls DWorkers_steps.m GWorkers_steps (hr.mono (by decide)) DWorkers_steps.b .nil pass0 (pa_cons (pv 1) (pa_cons (pv 3) pa_nil))))))))))) (by rfl)))), ?_⟩
    walk_at "rx"
    refine ⟨_, dispS rfl rfl rfl hru ok hb vst l60, ?_⟩
    rintro v H1 ⟨l, ps, rfl, S1, nl, hl, t⟩
    refine rd_inEs (hs.same S1) hl t m (q H1 S1)
theorem dispF {K : PySem.W.Frag} {H : Hp} {σ : L2.St} {i : Nat} {r : Addr} {R : Kd} (h0 : σ[i]? = some (some (.ref r))) (hr : KRt K H r R) (ok : KOk R) :
    (tAlt (tMeth (atTop K "Rule") "first_state" (spRule_first_state K) [] E0 (tVar i) tNil) (tAlt (tMeth (atTop K "FromTop") "first_state" (spRule_first_state K) [] E0 (tVar i) tNil) (tAlt (tMeth (atTop K "FromMark") "first_state" (spRule_first_state K) [] E0 (tVar i) tNil) (tAlt (tMeth (atTop K "FromPoints") "first_state" (spRule_first_state K) [] E0 (tVar i) tNil) (tAlt (tMeth (atTop K "Late") "first_state" (spRule_first_state K) [] E0 (tVar i) tNil) (tAlt (tMeth (atTop K "Either") "first_state" (spRule_first_state K) [] E0 (tVar i) tNil) (tAlt (tMeth (atTop K "Lagging") "first_state" (spLagging_first_state K) [] E0 (tVar i) tNil) (tMeth (atTop K "Workers") "first_state" (spWorkers_first_state K) [] E0 (tVar i) tNil)))))))) σ H (fun v H' => ∃ l, v = .ref l ∧ Same H H' ∧ TAt R H' l (firstK R)) := by
  have args : ∀ (R : List V → Hp → Prop), R [] H → tNil σ H R := fun R q => q
  cases R with
  | w c =>
    obtain ⟨dx, hi⟩ := hr
    refine rd_altR (rd_altR (rd_altR (rd_altR (rd_altR (rd_altR (rd_altR (rd_meth ⟨_, h0, ?_⟩)))))))
    refine rd_Mt hi rfl (args _ ?_)
    exact ⟨r, dx, c, rfl, hi, ok.1, ok.2, fun H' l S h => ⟨l, rfl, S, h⟩⟩
  | r x =>
    cases x with
    | lag n =>
      obtain ⟨dx, hi⟩ := hr
      refine rd_altR (rd_altR (rd_altR (rd_altR (rd_altR (rd_altR (rd_altL (rd_meth ⟨_, h0, ?_⟩)))))))
      refine rd_Mt hi rfl (args _ ?_)
      exact ⟨r, rfl, fun H' l S h => ⟨l, rfl, S, h⟩⟩
    | eit ls =>
      obtain ⟨dx, t, as, hi, _⟩ := hr
      refine rd_altR (rd_altR (rd_altR (rd_altR (rd_altR (rd_altL (rd_meth ⟨_, h0, ?_⟩))))))
      refine rd_Mt hi rfl (args _ ?_)
      exact ⟨r, rfl, fun H' l S h => ⟨l, rfl, S, h⟩⟩
    | leaf l =>
      cases l with
      | once =>
        obtain ⟨dx, hi⟩ := hr
        refine rd_altL (rd_meth ⟨_, h0, ?_⟩)
        refine rd_Mt hi rfl (args _ ?_)
        exact ⟨r, rfl, fun H' l S h => ⟨l, rfl, S, h⟩⟩
      | top =>
        obtain ⟨dx, hi⟩ := hr
        refine rd_altR (rd_altL (rd_meth ⟨_, h0, ?_⟩))
        refine rd_Mt hi rfl (args _ ?_)
        exact ⟨r, rfl, fun H' l S h => ⟨l, rfl, S, h⟩⟩
      | mark =>
        obtain ⟨dx, hi⟩ := hr
        refine rd_altR (rd_altR (rd_altL (rd_meth ⟨_, h0, ?_⟩)))
        refine rd_Mt hi rfl (args _ ?_)
        exact ⟨r, rfl, fun H' l S h => ⟨l, rfl, S, h⟩⟩
      | pts nw ns =>
        obtain ⟨dx, t, hi, _⟩ := hr
        refine rd_altR (rd_altR (rd_altR (rd_altL (rd_meth ⟨_, h0, ?_⟩))))
        refine rd_Mt hi rfl (args _ ?_)
        exact ⟨r, rfl, fun H' l S h => ⟨l, rfl, S, h⟩⟩
      | late o =>
        obtain ⟨dx, fs, hi, hfs⟩ : ∃ dx fs, H r = some (.ins (atTop K "Late") dx fs) ∧ fs.lookup ("first_state" : Str) = none := by
          cases o with
          | none => obtain ⟨dx, h⟩ := hr; exact ⟨dx, _, h, rfl⟩
          | some ns => obtain ⟨dx, t0, h, _⟩ := hr; exact ⟨dx, _, h, rfl⟩
        refine rd_altR (rd_altR (rd_altR (rd_altR (rd_altL (rd_meth ⟨_, h0, ?_⟩)))))
        refine rd_Mt hi hfs (args _ ?_)
        exact ⟨r, rfl, fun H' l S h => ⟨l, rfl, S, h⟩⟩
def sp_state_behind (K : PySem.W.Frag) : Sp := fun vs H Q _ => ∃ (r l : Addr) (ps : List Addr) (R : Kd) (ss : List Stp) (e : List Nat) (f len : Nat), vs = [.ref r, .ref l, .int (len : Int)] ∧ KRt K H r R ∧ KOk R ∧ H l = some (.lst (ps.map V.ref)) ∧ EsAt R H ps ss ∧ len ≤ 60 ∧ CK R len (firstK R) 0 ss e f ∧ ∀ H' b, Same H H' → TAt R H' b e → Q (.ref b) H'
set_option maxHeartbeats 4000000 in
theorem ok_state_behind (T : Top K mg) {f : Addr} {fd : FuncData} (D : Def K mg "_state_behind" s_state_behind ["rule", "run", "length"] f fd) : FnOk P w K mg base CX0 5 f fd ["rule", "run", "length"] (sp_state_behind K) := by
  obtain ⟨f_is_possible, fd_is_possible, D_is_possible⟩ := T.d__is_possible
  have G_is_possible : FnOk P w K mg base CX0 4 f_is_possible fd_is_possible ["rule", "state", "step", "length"] (sp_is_possible K) := ok_is_possible T D_is_possible
  obtain ⟨fRule_first_state, fdRule_first_state, DRule_first_state⟩ := T.d_Rule_first_state
  have GRule_first_state : FnOk P w K mg base CX0 1 fRule_first_state fdRule_first_state ["self"] (spRule_first_state K) := okRule_first_state T DRule_first_state
  obtain ⟨fFromTop_first_state, fdFromTop_first_state, DFromTop_first_state⟩ := T.d_FromTop_first_state
  have GFromTop_first_state : FnOk P w K mg base CX0 1 fFromTop_first_state fdFromTop_first_state ["self"] (spRule_first_state K) := okRule_first_state T DFromTop_first_state
  obtain ⟨fFromMark_first_state, fdFromMark_first_state, DFromMark_first_state⟩ := T.d_FromMark_first_state
  have GFromMark_first_state : FnOk P w K mg base CX0 1 fFromMark_first_state fdFromMark_first_state ["self"] (spRule_first_state K) := okRule_first_state T DFromMark_first_state
  obtain ⟨fFromPoints_first_state, fdFromPoints_first_state, DFromPoints_first_state⟩ := T.d_FromPoints_first_state
  have GFromPoints_first_state : FnOk P w K mg base CX0 1 fFromPoints_first_state fdFromPoints_first_state ["self"] (spRule_first_state K) := okRule_first_state T DFromPoints_first_state
  obtain ⟨fLate_first_state, fdLate_first_state, DLate_first_state⟩ := T.d_Late_first_state
  have GLate_first_state : FnOk P w K mg base CX0 1 fLate_first_state fdLate_first_state ["self"] (spRule_first_state K) := okRule_first_state T DLate_first_state
  obtain ⟨fEither_first_state, fdEither_first_state, DEither_first_state⟩ := T.d_Either_first_state
  have GEither_first_state : FnOk P w K mg base CX0 1 fEither_first_state fdEither_first_state ["self"] (spRule_first_state K) := okRule_first_state T DEither_first_state
  obtain ⟨fLagging_first_state, fdLagging_first_state, DLagging_first_state⟩ := T.d_Lagging_first_state
  have GLagging_first_state : FnOk P w K mg base CX0 1 fLagging_first_state fdLagging_first_state ["self"] (spLagging_first_state K) := okLagging_first_state T DLagging_first_state
  obtain ⟨fWorkers_first_state, fdWorkers_first_state, DWorkers_first_state⟩ := T.d_Workers_first_state
  have GWorkers_first_state : FnOk P w K mg base CX0 1 fWorkers_first_state fdWorkers_first_state ["self"] (spWorkers_first_state K) := okWorkers_first_state T DWorkers_first_state
  refine D.F.ok sc_state_behind (fun vs H Q E h => ?_) (fun cdv A outer s H vs Q E hr h => ?_)
  · obtain ⟨r, l, ps, R, ss, e, f, len, rfl, _⟩ := h
    rfl
  · obtain ⟨r, l, ps, R, ss, e, f, len, rfl, hru, ok, hl, tp, l60, ch, q⟩ := h
    have lp := tp.1
    refine ⟨_, (pss_cons (ps_set (i := 3) sc_state_behind.nd rfl (.inl rfl) (pe_cutX (pe_alt (pe_meth0 (pv 0) T.c_Rule.cls DRule_first_state.m GRule_first_state (hr.mono (by decide)) DRule_first_state.b .nil pass0) (pe_alt (pe_meth0 (pv 0) T.c_FromTop.cls DFromTop_first_state.m GFromTop_first_state (hr.mono (by decide)) DFromTop_first_state.b .nil pass0) (pe_alt (pe_meth0 (pv 0) T.c_FromMark.cls DFromMark_first_state.m GFromMark_first_state (hr.mono (by decide)) DFromMark_first_state.b .nil pass0) (pe_alt (pe_meth0 (pv 0) T.c_FromPoints.cls DFromPoints_first_state.m GFromPoints_first_state (hr.mono (by decide)) DFromPoints_first_state.b .nil pass0) (pe_alt (pe_meth0 (pv 0) T.c_Late.cls DLate_first_state.m GLate_first_state (hr.mono (by decide)) DLate_first_state.b .nil pass0) (pe_alt (pe_meth0 (pv 0) T.c_Either.cls DEither_first_state.m GEither_first_state (hr.mono (by decide)) DEither_first_state.b .nil pass0) (pe_alt (pe_meth0 (pv 0) T.c_Lagging.cls DLagging_first_state.m GLagging_first_state (hr.mono (by decide)) DLagging_first_state.b .nil pass0) (pe_meth0 (pv 0) T.c_Workers.cls DWorkers_first_state.m GWorkers_first_state (hr.mono (by decide)) DWorkers_first_state.b .nil pass0))))))))))
    (pss_cons (ps_for PassesOwn.never rfl (pi_list (pv 1)) (pg_name (i := 4) sc_state_behind.nd rfl (.inl rfl)) (pss_cons (ps_if (pt_not (pt_val (pe_call G_is_possible hr (by rfl) D_is_possible.g D_is_possible.F.kp D_is_possible.b .nil pass0 (pa_cons (pv 0) (pa_cons (pv 3) (pa_cons (pv 4) (pa_cons (pv 2) pa_nil))))))) (pss_one (ps_ret pe_non)) pss_nil)
    (pss_one (ps_set (i := 3) sc_state_behind.nd rfl (.inl rfl) (pe_ix (r := rIxT K) ix_tup (pv 4) pe_int (fun _ _ => rfl))))))
    (pss_one (ps_ret (pv 3))))), ?_⟩
    walk_at "rx"
    refine ⟨_, dispF rfl hru ok, ?_⟩
    rintro v H1 ⟨b0, rfl, S1, hb0⟩
    have hl1 := S1 _ _ hl
    walk_at "rx"
    refine fr_it (walk_list (xs := ps.map V.ref)) (fun i σ H' => ∃ (b : Addr) (st : List Nat) (m : Nat) (y4 : Option V), σ = [some (.ref r), some (.ref l), some (.int (len : Int)), some (.ref b), y4] ∧ Same H H' ∧ TAt R H' b st ∧ RK.VK R len st ∧ CK R len st m (ss.drop i) e f) ⟨b0, firstK R, 0, none, rfl, S1, hb0, first_okK R len, ch⟩ (fun i σ H' _ p => by obtain ⟨_, _, _, _, _, S, _⟩ := p; exact SqL.of (S _ _ hl)) ?_ ?_
    · rintro i x σ H2 H3 hi ⟨b, st, m, y4, rfl, S2, hb2, v2, c2⟩ ⟨rfl, ex⟩
      rw [List.length_map] at hi
      have hi2 : i < ss.length := by omega
      obtain ⟨p, e1, e2⟩ := (tp.same S2).at hi2
      rw [List.getElem?_map, e1] at ex
      cases ex
      rw [List.drop_eq_getElem_cons hi2] at c2
      walk_at "rx"
      refine ⟨r, b, p, R, st, ss[i], len, rfl, hru.ki (Ki.same S2), ok, hb2, v2, l60, e2, c2.1, fun H4 S4 => ?_⟩
      refine ⟨true, rfl, ?_⟩
      show if false = true then _ else _
      obtain ⟨u, hp, hu⟩ := e2.same S4
      walk_at "rx"
      exact ⟨u, ss[i].2, _, _, rfl, S2.trans S4, hu, step_okK ok l60 v2 c2.1, c2.2⟩
    · rintro σ H2 ⟨b, st, m, y4, rfl, S2, hb2, v2, c2⟩
      rw [List.length_map, lp, List.drop_length] at c2
      have e1 : st = e := c2.1
      subst e1
      walk_at "rx"
      exact q H2 b S2 hb2
def spis_run (K : PySem.W.Frag) : Sp := fun vs H Q _ => ∃ (r l : Addr) (ps : List Addr) (R : Kd) (ss : List Stp) (e : List Nat) (f len : Nat), vs = [.ref r, .ref l, .int (len : Int)] ∧ KRt K H r R ∧ KOk R ∧ H l = some (.lst (ps.map V.ref)) ∧ EsAt R H ps ss ∧ len ≤ 60 ∧ CK R len (firstK R) 0 ss e f ∧ ∀ H', Same H H' → Q (.bl true) H'
set_option maxHeartbeats 4000000 in
theorem okis_run (T : Top K mg) {f : Addr} {fd : FuncData} (D : Def K mg "is_run" sis_run ["rule", "run", "length"] f fd) : FnOk P w K mg base CX0 6 f fd ["rule", "run", "length"] (spis_run K) := by
  obtain ⟨f_state_behind, fd_state_behind, D_state_behind⟩ := T.d__state_behind
  have G_state_behind : FnOk P w K mg base CX0 5 f_state_behind fd_state_behind ["rule", "run", "length"] (sp_state_behind K) := ok_state_behind T D_state_behind
  refine D.F.ok scis_run (fun vs H Q E h => ?_) (fun cdv A outer s H vs Q E hr h => ?_)
  · obtain ⟨r, l, ps, R, ss, e, f, len, rfl, _⟩ := h
    rfl
  · obtain ⟨r, l, ps, R, ss, e, f, len, rfl, hru, ok, hl, tp, l60, ch, q⟩ := h
    refine ⟨_, (pss_one (ps_ret (pe_cmp (pc_notN (pe_call G_state_behind hr (by rfl) D_state_behind.g D_state_behind.F.kp D_state_behind.b .nil pass0 (pa_cons (pv 0) (pa_cons (pv 1) (pa_cons (pv 2) pa_nil)))))))), ?_⟩
    walk_at "rx"
    refine rd_notN ?_
    walk_at "rx"
    exact ⟨r, l, ps, R, ss, e, f, len, rfl, hru, ok, hl, tp, l60, ch, fun H1 b S1 hb => q H1 S1⟩
theorem dispE {K : PySem.W.Frag} {H : Hp} {σ : L2.St} {i j k : Nat} {r b : Addr} {R : Kd} {st : List Nat} {len : Nat} (h0 : σ[i]? = some (some (.ref r))) (h1 : σ[j]? = some (some (.ref b))) (h2 : σ[k]? = some (some (.int (len : Int)))) (hb : TAt R H b st) (v : RK.VK R len st) (hr : KRt K H r R) :
    (tAlt (tMeth (atTop K "Rule") "is_end" (spRule_is_end K) [] E0 (tVar i) (tCons (tVar j) (tCons (tVar k) tNil))) (tAlt (tMeth (atTop K "FromTop") "is_end" (spRule_is_end K) [] E0 (tVar i) (tCons (tVar j) (tCons (tVar k) tNil))) (tAlt (tMeth (atTop K "FromMark") "is_end" (spRule_is_end K) [] E0 (tVar i) (tCons (tVar j) (tCons (tVar k) tNil))) (tAlt (tMeth (atTop K "FromPoints") "is_end" (spRule_is_end K) [] E0 (tVar i) (tCons (tVar j) (tCons (tVar k) tNil))) (tAlt (tMeth (atTop K "Late") "is_end" (spRule_is_end K) [] E0 (tVar i) (tCons (tVar j) (tCons (tVar k) tNil))) (tAlt (tMeth (atTop K "Either") "is_end" (spRule_is_end K) [] E0 (tVar i) (tCons (tVar j) (tCons (tVar k) tNil))) (tAlt (tMeth (atTop K "Lagging") "is_end" (spLagging_is_end K) [] E0 (tVar i) (tCons (tVar j) (tCons (tVar k) tNil))) (tMeth (atTop K "Workers") "is_end" (spWorkers_is_end K) [] E0 (tVar i) (tCons (tVar j) (tCons (tVar k) tNil)))))))))) σ H (fun v H' => v = .bl (endK R st len) ∧ Same H H') := by
  have args : ∀ (R : List V → Hp → Prop), R [.ref b, .int (len : Int)] H → (tCons (tVar j) (tCons (tVar k) tNil)) σ H R := fun R q => ⟨_, h1, _, h2, q⟩
  cases R with
  | w c =>
    obtain ⟨dx, hi⟩ := hr
    refine rd_altR (rd_altR (rd_altR (rd_altR (rd_altR (rd_altR (rd_altR (rd_meth ⟨_, h0, ?_⟩)))))))
    refine rd_Mt hi rfl (args _ ?_)
    exact ⟨r, b, st, len, rfl, hb, rfl, Same.refl _⟩
  | r x =>
    cases x with
    | lag n =>
      obtain ⟨p, hh, rfl, hp, h60⟩ := v
      obtain ⟨dx, hi⟩ := hr
      refine rd_altR (rd_altR (rd_altR (rd_altR (rd_altR (rd_altR (rd_altL (rd_meth ⟨_, h0, ?_⟩)))))))
      refine rd_Mt hi rfl (args _ ?_)
      exact ⟨r, b, p, hh, len, rfl, hb, rfl, Same.refl _⟩
    | eit ls =>
      obtain ⟨p, rfl, hp⟩ := v
      obtain ⟨dx, t, as, hi, _⟩ := hr
      refine rd_altR (rd_altR (rd_altR (rd_altR (rd_altR (rd_altL (rd_meth ⟨_, h0, ?_⟩))))))
      refine rd_Mt hi rfl (args _ ?_)
      exact ⟨r, b, p, len, rfl, hb, fun H' S => ⟨rfl, S⟩⟩
    | leaf l =>
      obtain ⟨p, rfl, hp⟩ := v
      cases l with
      | once =>
        obtain ⟨dx, hi⟩ := hr
        refine rd_altL (rd_meth ⟨_, h0, ?_⟩)
        refine rd_Mt hi rfl (args _ ?_)
        exact ⟨r, b, p, len, rfl, hb, fun H' S => ⟨rfl, S⟩⟩
      | top =>
        obtain ⟨dx, hi⟩ := hr
        refine rd_altR (rd_altL (rd_meth ⟨_, h0, ?_⟩))
        refine rd_Mt hi rfl (args _ ?_)
        exact ⟨r, b, p, len, rfl, hb, fun H' S => ⟨rfl, S⟩⟩
      | mark =>
        obtain ⟨dx, hi⟩ := hr
        refine rd_altR (rd_altR (rd_altL (rd_meth ⟨_, h0, ?_⟩)))
        refine rd_Mt hi rfl (args _ ?_)
        exact ⟨r, b, p, len, rfl, hb, fun H' S => ⟨rfl, S⟩⟩
      | pts nw ns =>
        obtain ⟨dx, t, hi, _⟩ := hr
        refine rd_altR (rd_altR (rd_altR (rd_altL (rd_meth ⟨_, h0, ?_⟩))))
        refine rd_Mt hi rfl (args _ ?_)
        exact ⟨r, b, p, len, rfl, hb, fun H' S => ⟨rfl, S⟩⟩
      | late o =>
        obtain ⟨dx, fs, hi, hfs⟩ : ∃ dx fs, H r = some (.ins (atTop K "Late") dx fs) ∧ fs.lookup ("is_end" : Str) = none := by
          cases o with
          | none => obtain ⟨dx, h⟩ := hr; exact ⟨dx, _, h, rfl⟩
          | some ns => obtain ⟨dx, t0, h, _⟩ := hr; exact ⟨dx, _, h, rfl⟩
        refine rd_altR (rd_altR (rd_altR (rd_altR (rd_altL (rd_meth ⟨_, h0, ?_⟩)))))
        refine rd_Mt hi hfs (args _ ?_)
        exact ⟨r, b, p, len, rfl, hb, fun H' S => ⟨rfl, S⟩⟩
def spis_complete (K : PySem.W.Frag) : Sp := fun vs H Q _ => ∃ (r l : Addr) (ps : List Addr) (R : Kd) (ss : List Stp) (e : List Nat) (f len : Nat), vs = [.ref r, .ref l, .int (len : Int)] ∧ KRt K H r R ∧ KOk R ∧ H l = some (.lst (ps.map V.ref)) ∧ EsAt R H ps ss ∧ len ≤ 60 ∧ CK R len (firstK R) 0 ss e f ∧ ∀ H', Same H H' → Q (.bl (endK R e len)) H'
set_option maxHeartbeats 4000000 in
theorem okis_complete (T : Top K mg) {f : Addr} {fd : FuncData} (D : Def K mg "is_complete" sis_complete ["rule", "run", "length"] f fd) : FnOk P w K mg base CX0 6 f fd ["rule", "run", "length"] (spis_complete K) := by
  obtain ⟨f_state_behind, fd_state_behind, D_state_behind⟩ := T.d__state_behind
  have G_state_behind : FnOk P w K mg base CX0 5 f_state_behind fd_state_behind ["rule", "run", "length"] (sp_state_behind K) := ok_state_behind T D_state_behind
  obtain ⟨fRule_is_end, fdRule_is_end, DRule_is_end⟩ := T.d_Rule_is_end
  have GRule_is_end : FnOk P w K mg base CX0 1 fRule_is_end fdRule_is_end ["self", "state", "length"] (spRule_is_end K) := okRule_is_end T DRule_is_end
  obtain ⟨fFromTop_is_end, fdFromTop_is_end, DFromTop_is_end⟩ := T.d_FromTop_is_end
  have GFromTop_is_end : FnOk P w K mg base CX0 1 fFromTop_is_end fdFromTop_is_end ["self", "state", "length"] (spRule_is_end K) := okRule_is_end T DFromTop_is_end
  obtain ⟨fFromMark_is_end, fdFromMark_is_end, DFromMark_is_end⟩ := T.d_FromMark_is_end
  have GFromMark_is_end : FnOk P w K mg base CX0 1 fFromMark_is_end fdFromMark_is_end ["self", "state", "length"] (spRule_is_end K) := okRule_is_end T DFromMark_is_end
  obtain ⟨fFromPoints_is_end, fdFromPoints_is_end, DFromPoints_is_end⟩ := T.d_FromPoints_is_end
  have GFromPoints_is_end : FnOk P w K mg base CX0 1 fFromPoints_is_end fdFromPoints_is_end ["self", "state", "length"] (spRule_is_end K) := okRule_is_end T DFromPoints_is_end
  obtain ⟨fLate_is_end, fdLate_is_end, DLate_is_end⟩ := T.d_Late_is_end
  have GLate_is_end : FnOk P w K mg base CX0 1 fLate_is_end fdLate_is_end ["self", "state", "length"] (spRule_is_end K) := okRule_is_end T DLate_is_end
  obtain ⟨fEither_is_end, fdEither_is_end, DEither_is_end⟩ := T.d_Either_is_end
  have GEither_is_end : FnOk P w K mg base CX0 1 fEither_is_end fdEither_is_end ["self", "state", "length"] (spRule_is_end K) := okRule_is_end T DEither_is_end
  obtain ⟨fLagging_is_end, fdLagging_is_end, DLagging_is_end⟩ := T.d_Lagging_is_end
  have GLagging_is_end : FnOk P w K mg base CX0 1 fLagging_is_end fdLagging_is_end ["self", "state", "length"] (spLagging_is_end K) := okLagging_is_end T DLagging_is_end
  obtain ⟨fWorkers_is_end, fdWorkers_is_end, DWorkers_is_end⟩ := T.d_Workers_is_end
  have GWorkers_is_end : FnOk P w K mg base CX0 1 fWorkers_is_end fdWorkers_is_end ["self", "state", "length"] (spWorkers_is_end K) := okWorkers_is_end T DWorkers_is_end
  refine D.F.ok scis_complete (fun vs H Q E h => ?_) (fun cdv A outer s H vs Q E hr h => ?_)
  · obtain ⟨r, l, ps, R, ss, e, f, len, rfl, _⟩ := h
    rfl
  · obtain ⟨r, l, ps, R, ss, e, f, len, rfl, hru, ok, hl, tp, l60, ch, q⟩ := h
    have ve := (CK.good ok l60 (first_okK R len) (first_pos R) (Nat.zero_le _) ch).1
    refine ⟨_, (pss_cons (ps_set (i := 3) scis_complete.nd rfl (.inl rfl) (pe_call G_state_behind hr (by rfl) D_state_behind.g D_state_behind.F.kp D_state_behind.b .nil pass0 (pa_cons (pv 0) (pa_cons (pv 1) (pa_cons (pv 2) pa_nil)))))
    (pss_one (ps_ret (pe_and (pe_cmp (pc_notN (pv 3))) (pe_one (pe_cutX (pe_alt (pe_meth (pv 0) T.c_Rule.cls DRule_is_end.m GRule_is_end (hr.mono (by decide)) DRule_is_end.b .nil pass0 (pa_cons (pv 3) (pa_cons (pv 2) pa_nil))) (pe_alt (pe_meth (pv 0) T.c_FromTop.cls DFromTop_is_end.m GFromTop_is_end (hr.mono (by decide)) DFromTop_is_end.b .nil pass0 (pa_cons (pv 3) (pa_cons (pv 2) pa_nil))) (pe_alt (pe_meth (pv 0) T.c_FromMark.cls DFromMark_is_end.m GFromMark_is_end (hr.mono (by decide)) DFromMark_is_end.b .nil pass0 (pa_cons (pv 3) (pa_cons (pv 2) pa_nil))) (pe_alt (pe_meth (pv 0) T.c_FromPoints.cls DFromPoints_is_end.m GFromPoints_is_end (hr.mono (by decide)) DFromPoints_is_end.b .nil pass0 (pa_cons (pv 3) (pa_cons (pv 2) pa_nil))) (pe_alt (pe_meth (pv 0) T.c_Late.cls DLate_is_end.m GLate_is_end (hr.mono (by decide)) DLate_is_end.b .nil pass0 (pa_cons (pv 3) (pa_cons (pv 2) pa_nil))) (pe_alt (pe_meth (pv 0) T.c_Either.cls DEither_is_end.m GEither_is_end (hr.mono (by decide)) DEither_is_end.b .nil pass0 (pa_cons (pv 3) (pa_cons (pv 2) pa_nil))) (pe_alt (pe_meth (pv 0) T.c_Lagging.cls DLagging_is_end.m GLagging_is_end (hr.mono (by decide)) DLagging_is_end.b .nil pass0 (pa_cons (pv 3) (pa_cons (pv 2) pa_nil))) (pe_meth (pv 0) T.c_Workers.cls DWorkers_is_end.m GWorkers_is_end (hr.mono (by decide)) DWorkers_is_end.b .nil pass0 (pa_cons (pv 3) (pa_cons (pv 2) pa_nil)))))))))))))))), ?_⟩
    walk_at "rx"
    refine ⟨r, l, ps, R, ss, e, f, len, rfl, hru, ok, hl, tp, l60, ch, fun H1 b S1 hb => ?_⟩
    walk_at "rx"
    refine rd_notN ?_
    walk_at "rx"
    refine ⟨_, dispE rfl rfl rfl hb ve (hru.ki (Ki.same S1)), ?_⟩
    rintro v H2 ⟨rfl, S2⟩
    exact q H2 (S1.trans S2)
def sp_law_many (K : PySem.W.Frag) : Sp := fun vs H Q _ => ∃ (a : Addr) (ls : List Int) (f : Nat), vs = [.ref a] ∧ H a = some (.tup (ls.map V.int)) ∧ mnF 0 ls = some f ∧ Q (.int (f : Int)) H
set_option maxHeartbeats 4000000 in
theorem ok_law_many (T : Top K mg) {f : Addr} {fd : FuncData} (D : Def K mg "_law_many" s_law_many ["told"] f fd) : FnOk P w K mg base CX0 1 f fd ["told"] (sp_law_many K) := by
  refine D.F.ok sc_law_many (fun vs H Q E h => ?_) (fun cdv A outer s H vs Q E hr h => ?_)
  · obtain ⟨a, ls, f, rfl, _⟩ := h
    rfl
  · obtain ⟨a, ls, f, rfl, ha, hf, q⟩ := h
    refine ⟨_, (pss_cons (ps_set (i := 1) sc_law_many.nd rfl (.inl rfl) pe_int)
    (pss_cons (ps_for PassesOwn.never rfl (pi_tup (pv 0)) (pg_name (i := 2) sc_law_many.nd rfl (.inl rfl)) (pss_cons (ps_if (pt_cmpR op_gt (pv 2) (pv 1) (nomark _)) (pss_one (ps_ret (pe_un un_neg pe_int))) pss_nil)
    (pss_one (ps_set (i := 1) sc_law_many.nd rfl (.inl rfl) (pe_callB (r := rMaxQ) (call_maxQ rfl) (by rfl) T.b_max (by decide +kernel) (pa_cons (pv 1) (pa_cons (pe_op op_add (pv 2) pe_int) pa_nil)))))))
    (pss_one (ps_ret (pv 1))))), ?_⟩
    walk_at "rx"
    refine fr_it (walk_tup (xs := ls.map V.int)) (fun i σ H' => ∃ (m : Nat) (y2 : Option V), σ = [some (.ref a), some (.int (m : Int)), y2] ∧ H' = H ∧ mnF m (ls.drop i) = some f) ⟨0, none, rfl, rfl, hf⟩ (fun i σ H' _ ⟨m, y2, e, eH, _⟩ => by subst eH; exact SqT.of ha) ?_ ?_
    · rintro i x σ H2 H3 hi ⟨m, y2, rfl, rfl, c2⟩ ⟨rfl, ex⟩
      rw [List.length_map] at hi
      rw [List.drop_eq_getElem_cons hi] at c2
      rw [List.getElem?_map, List.getElem?_eq_getElem hi] at ex
      cases ex
      have c3 : (if (m : Int) < ls[i] then none else mnF (max m (ls[i] + 1).toNat) (ls.drop (i + 1))) = some f := c2
      split at c3
      · cases c3
      · rename_i z
        walk_at "rx"
        refine ⟨max m (ls[i] + 1).toNat, some (.int ls[i]), ?_, rfl, c3⟩
        rw [show ((max m (ls[i] + 1).toNat : Nat) : Int) = (if ls[i] + 1 > (m : Int) then ls[i] + 1 else (m : Int)) by split <;> omega]
        rfl
    · rintro σ H2 ⟨m, y2, rfl, rfl, c2⟩
      rw [List.length_map, List.drop_length] at c2
      cases c2
      walk_at "rx"
      exact q
theorem first_end {r : Kd} (ok : KOk r) (len : Nat) : endK r (firstK r) len = decide (len = 0) := by
  cases h : endK r (firstK r) len with
  | true => rw [decide_eq_true (first_stop r len h)]
  | false =>
    by_cases z : len = 0
    · subst z
      have : endK r (firstK r) 0 = true := by
        rw [endK_iff]
        cases r with
        | r x => cases x <;> exact List.mem_singleton.mpr rfl
        | w c => exact List.mem_replicate.mpr ⟨by have := ok.1; omega, rfl⟩
      rw [this] at h; cases h
    · rw [decide_eq_false z]
def sp_law_judged (K : PySem.W.Frag) : Sp := fun vs H Q _ => ∃ (a l : Addr) (r : Kd) (M : List Addr) (ps : List Addr) (ss : List Stp) (e : List Nat) (len cut : Nat), vs = [.ref a, .int (len : Int), .ref l, .int (cut : Int)] ∧ KSpc M H a r ∧ KOk r ∧ (∀ ls, r = .r (.eit ls) → ls.length ≤ 4) ∧ H l = some (.lst (ps.map V.ref)) ∧ EsAt r H ps ss ∧ CK r len (firstK r) 0 ss e len ∧ endK r e len = true ∧ len ≤ 60 ∧ ss.length ≤ 300 ∧ cut ≤ ss.length ∧ ∀ H', Same H H' → Q (.bl true) H'
set_option maxHeartbeats 4000000 in
theorem ok_law_judged (T : Top K mg) {f : Addr} {fd : FuncData} (D : Def K mg "_law_judged" s_law_judged ["spec", "length", "run", "cut"] f fd) : FnOk P w K mg base CX0 7 f fd ["spec", "length", "run", "cut"] (sp_law_judged K) := by
  obtain ⟨f_law_made, fd_law_made, D_law_made⟩ := T.d__law_made
  have G_law_made : FnOk P w K mg base CX0 6 f_law_made fd_law_made ["spec"] (sp_law_made K) := ok_law_made T D_law_made
  obtain ⟨fexecuted, fdexecuted, Dexecuted⟩ := T.d_executed
  have Gexecuted : FnOk P w K mg base CX0 2 fexecuted fdexecuted ["run"] (spexecuted K) := okexecuted T Dexecuted
  obtain ⟨f_law_is_truth, fd_law_is_truth, D_law_is_truth⟩ := T.d__law_is_truth
  have G_law_is_truth : FnOk P w K mg base CX0 1 f_law_is_truth fd_law_is_truth ["told", "due"] (sp_law_is_truth K) := ok_law_is_truth T D_law_is_truth
  obtain ⟨f_law_ended, fd_law_ended, D_law_ended⟩ := T.d__law_ended
  have G_law_ended : FnOk P w K mg base CX0 1 f_law_ended fd_law_ended ["spec", "state", "length"] (sp_law_ended K) := ok_law_ended T D_law_ended
  obtain ⟨fis_run, fdis_run, Dis_run⟩ := T.d_is_run
  have Gis_run : FnOk P w K mg base CX0 6 fis_run fdis_run ["rule", "run", "length"] (spis_run K) := okis_run T Dis_run
  obtain ⟨fis_complete, fdis_complete, Dis_complete⟩ := T.d_is_complete
  have Gis_complete : FnOk P w K mg base CX0 6 fis_complete fdis_complete ["rule", "run", "length"] (spis_complete K) := okis_complete T Dis_complete
  obtain ⟨f_law_many, fd_law_many, D_law_many⟩ := T.d__law_many
  have G_law_many : FnOk P w K mg base CX0 1 f_law_many fd_law_many ["told"] (sp_law_many K) := ok_law_many T D_law_many
  refine D.F.ok sc_law_judged (fun vs H Q E h => ?_) (fun cdv A outer s H vs Q E hr h => ?_)
  · obtain ⟨a, l, r, M, ps, ss, e, len, cut, rfl, _⟩ := h
    rfl
  · obtain ⟨a, l, r, M, ps, ss, e, len, cut, rfl, hs, ok, l4, hl, ts, ch, ze, l60, s300, cs, q⟩ := h
    have lps := ts.1
    obtain ⟨v0, _, _, mf0, lo0, _⟩ := CK.good ok l60 (first_okK r len) (first_pos r) (Nat.zero_le _) ch
    obtain ⟨e2, f2, ch2⟩ := CK.take cut ch
    obtain ⟨v2, hm2, ml2, mf2, lo2, _⟩ := CK.good ok l60 (first_okK r len) (first_pos r) (Nat.zero_le _) ch2
    have c300 : (ss.take cut).length ≤ 300 := by rw [List.length_take]; omega
    refine ⟨_, (pss_cons (ps_set (i := 4) sc_law_judged.nd rfl (.inl rfl) (pe_call G_law_made hr (by rfl) D_law_made.g D_law_made.F.kp D_law_made.b .nil pass0 (pa_cons (pv 0) pa_nil)))
    (pss_cons (ps_set (i := 5) sc_law_judged.nd rfl (.inl rfl) (pe_callTy (r := rTupQ K) call_tupQ (by rfl) T.b_tuple (by decide +kernel) (pa_cons (pe_lc (own := [("step", 9)]) (g := gName 9) (tt := _) rfl sc_law_judged.nd (pi_list (pv 2))
      (blkOk_by (own := [("step", 9)]) (N := ["spec", "length", "run", "cut", "rule", "lines", "told", "part", "ended", "step"]) (sc := defScope s_law_judged) (by decide +kernel)) (fun _ _ _ _ _ => (pg_name (i := 9) sc_law_judged.nd rfl (.inl rfl))) (fun _ _ _ _ _ => pts_one (pt_cmpR op_ge (pe_ix (r := rIxT K) ix_tup (pv 9) pe_int (fun _ _ => rfl)) pe_int (nomark _)))
      (fun _ _ _ _ _ => (pe_ix (r := rIxT K) ix_tup (pv 9) pe_int (fun _ _ => rfl)))) pa_nil)))
    (pss_cons (ps_set (i := 6) sc_law_judged.nd rfl (.inl rfl) (pe_call Gexecuted (hr.mono (by decide)) (by rfl) Dexecuted.g Dexecuted.F.kp Dexecuted.b .nil pass0 (pa_cons (pe_callTy (r := rLstQ K) call_lstQ (by rfl) T.b_list (by decide +kernel) (pa_cons (pv 2) pa_nil)) pa_nil)))
    (pss_cons (ps_if (PW.pt (pw_or (pt_not (pt_val (pe_callB (r := rIsi K) call_isi (by rfl) T.b_isinstance (by decide +kernel) (pa_cons (pv 6) (pa_cons (pe_bltn (v := .ty "tuple") (by rfl) T.b_tuple (by decide +kernel) rfl) pa_nil))))) (pw_or (pt_cmpR (op_neD hr.units) (pv 6) (pv 5) (nomark _)) (pw_or1 (pt_cmpR op_ne (pe_call G_law_many (hr.mono (by decide)) (by rfl) D_law_many.g D_law_many.F.kp D_law_many.b .nil pass0 (pa_cons (pv 5) pa_nil)) (pv 1) (nomark _)))))) (pss_one (ps_ret pe_bl)) pss_nil)
    (pss_cons (ps_if (PW.pt (pw_or (pt_cmpR op_isnB (pe_call Gis_run hr (by rfl) Dis_run.g Dis_run.F.kp Dis_run.b .nil pass0 (pa_cons (pv 4) (pa_cons (pe_callTy (r := rLstQ K) call_lstQ (by rfl) T.b_list (by decide +kernel) (pa_cons (pv 2) pa_nil)) (pa_cons (pv 1) pa_nil)))) pe_bl (nomark _)) (pw_or1 (pt_cmpR op_isnB (pe_call Gis_complete hr (by rfl) Dis_complete.g Dis_complete.F.kp Dis_complete.b .nil pass0 (pa_cons (pv 4) (pa_cons (pe_callTy (r := rLstQ K) call_lstQ (by rfl) T.b_list (by decide +kernel) (pa_cons (pv 2) pa_nil)) (pa_cons (pv 1) pa_nil)))) pe_bl (nomark _))))) (pss_one (ps_ret pe_bl)) pss_nil)
    (pss_cons (ps_set (i := 7) sc_law_judged.nd rfl (.inl rfl) (pe_slice sl_list (pv 2) po_none (po_some (pv 3))))
    (pss_cons (ps_set (i := 6) sc_law_judged.nd rfl (.inl rfl) (pe_call Gexecuted (hr.mono (by decide)) (by rfl) Dexecuted.g Dexecuted.F.kp Dexecuted.b .nil pass0 (pa_cons (pe_callTy (r := rLstQ K) call_lstQ (by rfl) T.b_list (by decide +kernel) (pa_cons (pv 7) pa_nil)) pa_nil)))
    (pss_cons (ps_set (i := 8) sc_law_judged.nd rfl (.inl rfl) (pe_cmpR op_eq (pv 1) pe_int (nomark _)))
    (C8.pss_cut (ps_if (pt_truQ (pv 7) (by intro _; rfl)) (pss_one (ps_set (i := 8) sc_law_judged.nd rfl (.inl rfl) (pe_call G_law_ended (hr.mono (by decide)) (by rfl) D_law_ended.g D_law_ended.F.kp D_law_ended.b .nil pass0 (pa_cons (pv 0) (pa_cons (pe_ix (r := rIxT K) ix_tup (pe_ix (r := rIxL K) ix_list (pv 7) (pe_op op_sub (pv 3) pe_int) (fun _ _ => rfl)) pe_int (fun _ _ => rfl)) (pa_cons (pv 1) pa_nil)))))) pss_nil)
    (pss_cons (ps_if (PW.pt (pw_or (pt_cmpR (op_neD hr.units) (pv 6) (pe_callTy (r := rTupQ K) call_tupQ (by rfl) T.b_tuple (by decide +kernel) (pa_cons (pe_lc (own := [("step", 9)]) (g := gName 9) (tt := _) rfl sc_law_judged.nd (pi_list (pv 7))
      (blkOk_by (own := [("step", 9)]) (N := ["spec", "length", "run", "cut", "rule", "lines", "told", "part", "ended", "step"]) (sc := defScope s_law_judged) (by decide +kernel)) (fun _ _ _ _ _ => (pg_name (i := 9) sc_law_judged.nd rfl (.inl rfl))) (fun _ _ _ _ _ => pts_one (pt_cmpR op_ge (pe_ix (r := rIxT K) ix_tup (pv 9) pe_int (fun _ _ => rfl)) pe_int (nomark _)))
      (fun _ _ _ _ _ => (pe_ix (r := rIxT K) ix_tup (pv 9) pe_int (fun _ _ => rfl)))) pa_nil)) (nomark _)) (pw_or1 (pt_cmpR op_lt (pe_call G_law_many (hr.mono (by decide)) (by rfl) D_law_many.g D_law_many.F.kp D_law_many.b .nil pass0 (pa_cons (pv 6) pa_nil)) pe_int (nomark _))))) (pss_one (ps_ret pe_bl)) pss_nil)
    (pss_cons (ps_if (PW.pt (pw_and (pt_val (pv 8)) (pw_and1 (pt_cmpR op_ne (pe_call G_law_many (hr.mono (by decide)) (by rfl) D_law_many.g D_law_many.F.kp D_law_many.b .nil pass0 (pa_cons (pv 6) pa_nil)) (pv 1) (nomark _))))) (pss_one (ps_ret pe_bl)) pss_nil)
    (pss_cons (ps_if (pt_cmpR op_isnB (pe_call Gis_run hr (by rfl) Dis_run.g Dis_run.F.kp Dis_run.b .nil pass0 (pa_cons (pv 4) (pa_cons (pe_callTy (r := rLstQ K) call_lstQ (by rfl) T.b_list (by decide +kernel) (pa_cons (pv 7) pa_nil)) (pa_cons (pv 1) pa_nil)))) pe_bl (nomark _)) (pss_one (ps_ret pe_bl)) pss_nil)
    (pss_one (ps_ret (pe_call G_law_is_truth (hr.mono (by decide)) (by rfl) D_law_is_truth.g D_law_is_truth.F.kp D_law_is_truth.b .nil pass0 (pa_cons (pe_call Gis_complete hr (by rfl) Dis_complete.g Dis_complete.F.kp Dis_complete.b .nil pass0 (pa_cons (pv 4) (pa_cons (pe_callTy (r := rLstQ K) call_lstQ (by rfl) T.b_list (by decide +kernel) (pa_cons (pv 7) pa_nil)) (pa_cons (pv 1) pa_nil)))) (pa_cons (pv 8) pa_nil))))))))))))))))), ?_⟩
    walk_at "rx"
    refine ⟨a, r, M, rfl, hs, ok, l4, fun H1 x S1 hx => ?_⟩
    have hl1 := S1 _ _ hl
    have ts1 := ts.same S1
    walk_at "rx"
    refine lc_acc (walk_list (xs := (ps).map V.ref)) (fun i acc => acc = (lnz ((ss).take i)).map V.int) rfl (fun i acc hi e => by
      rw [e, List.length_map]
      unfold lnz
      rw [List.length_map]
      have h1 := List.length_filter_le (fun s : Stp => decide (0 ≤ s.1)) ((ss).take i)
      rw [List.length_take] at h1
      have h3 : (ss).length ≤ 300 := s300
      omega) (fun H' S => SqL.of (S _ _ hl1)) ?_ ?_
    · rintro i x Hx Hy acc Qc R hi2 Sx rfl ⟨rfl, ex⟩ qc rc
      rw [List.length_map] at hi2
      have lp := (ts1).1
      have hil : i < (ss).length := by rw [← lp]; exact hi2
      obtain ⟨b, e1, e2⟩ := ((ts1).same Sx).at hil
      rw [List.getElem?_map, e1] at ex
      cases ex
      obtain ⟨u, hb, _⟩ := e2
      have tk : (ss).take (i + 1) = (ss).take i ++ [(ss)[i]] := by rw [List.take_succ, List.getElem?_eq_getElem hil]; rfl
      walk_at "rx"
      refine ⟨rfl, ?_⟩
      walk_at "rx"
      by_cases z : (0 : Int) ≤ ((ss)[i]).1
      · rw [decide_eq_true z]
        show if true = true then _ else _
        walk_at "rx"
        refine qc _ _ (Same.refl _) ?_
        rw [tk]
        unfold lnz
        rw [List.filter_append, List.filter_cons, if_pos (decide_eq_true z), List.filter_nil, List.map_append, List.map_append]
        rfl
      · rw [decide_eq_false z]
        show if false = true then _ else _
        refine rc _ (Same.refl _) ?_
        rw [tk]
        unfold lnz
        rw [List.filter_append, List.filter_cons, if_neg (by rw [decide_eq_true_eq]; exact z), List.filter_nil, List.append_nil]
    intro H2 D acc S2 nD hD pp
    rw [List.length_map, lps, List.take_length] at pp
    subst pp
    have h9 : ((lnz ss).map V.int).length ≤ 1000 := by
      unfold lnz
      rw [List.length_map, List.length_map]
      have := List.length_filter_le (fun s : Stp => decide (0 ≤ s.1)) ss
      omega
    walk_at "rx"
    refine rd_newL fun H3 Ln S3 nL hL => ?_
    have S13 := S2.trans S3
    have hl3 := S13 _ _ hl1
    walk_at "rx"
    refine rd_newL fun H4 c4 S4 n4 h4 => ?_
    walk_at "rx"
    refine ⟨c4, ps, r, ss, rfl, h4, (ts1.same S13).same S4, fun s hs => (lo0 s hs).1, by omega, fun H5 T S5 hT => ?_⟩
    have hL5 := (S4.trans S5) _ _ hL
    walk_at "rx"
    refine rd_ned (.tup (SqT.of hT) (dp_ints (lnz ss))) (.tup (SqT.of hL5) (dp_ints (lnz ss))) (k := 1) (Sh.tuple fun d hd => by obtain ⟨i, _, rfl⟩ := List.mem_map.mp hd; exact Sh.int _) (by decide) ?_
    refine ⟨false, rfl, ?_⟩
    show if false = true then _ else _
    walk_at "rx"
    refine ⟨Ln, lnz ss, len, rfl, hL5, mf0, ?_⟩
    walk_at "rx"
    rw [decide_eq_true (rfl : V.int (len : Int) = V.int (len : Int))]
    show if false = true then _ else _
    walk_at "rx"
    refine rd_newL fun H6 c6 S6 n6 h6 => ?_
    have S16 := ((S13.trans S4).trans S5).trans S6
    walk_at "rx"
    refine ⟨x, c6, ps, r, ss, e, len, len, rfl, hx.same S16, ok, h6, ts1.same S16, l60, ch, fun H7 S7 => ?_⟩
    walk_at "rx"
    show if false = true then _ else _
    walk_at "rx"
    have hl7 := S7 _ _ (S16 _ _ hl1)
    refine rd_newL fun H8 c8 S8 n8 h8 => ?_
    have S18 := (S16.trans S7).trans S8
    walk_at "rx"
    refine ⟨x, c8, ps, r, ss, e, len, len, rfl, hx.same S18, ok, h8, ts1.same S18, l60, ch, fun H9 S9 => ?_⟩
    rw [ze]
    walk_at "rx"
    show if false = true then _ else _
    walk_at "rx"
    have S19 := S18.trans S9
    have hl9 := S19 _ _ hl1
    rw [cut_to (by rw [List.length_map, lps]; exact cs), ← List.map_take]
    refine rd_newL fun Ha Pt Sa nPt hPt => ?_
    have S1a := S19.trans Sa
    have tsa := (ts1.same S1a).take cut
    walk_at "rx"
    refine rd_newL fun Hb cb Sb nb hcb => ?_
    walk_at "rx"
    refine ⟨cb, ps.take cut, r, ss.take cut, rfl, hcb, tsa.same Sb, fun s hs => (lo2 s hs).1, by omega, fun Hc T2 Sc hT2 => ?_⟩
    have Sac := Sb.trans Sc
    have hPc := Sac _ _ hPt
    have tsc := tsa.same Sac
    have S1c := S1a.trans Sac
    have hsc := hs.same (S1.trans S1c)
    have lpt := tsc.1
    walk_at "rx"
    refine ⟨fun σ' H' => σ' = [some (.ref a), some (.int (len : Int)), some (.ref l), some (.int (cut : Int)), some (.ref x), some (.ref Ln), some (.ref T2), some (.ref Pt), some (.bl (endK r e2 len)), none] ∧ H' = Hc, ?_, ?_⟩
    · walk_at "rx"
      by_cases c0 : cut = 0
      · subst c0
        obtain ⟨e9, f9⟩ := ch2
        show if false = true then _ else _
        walk_at "rx"
        refine ⟨?_, rfl⟩
        rw [show endK r e2 len = decide (V.int (len : Int) = V.int 0) by
          rw [← e9, first_end ok]
          exact decide_eq_decide.mpr ⟨fun h => by rw [h]; rfl, fun h => by injection h with h; omega⟩]
        rfl
      · have lt : (ss.take cut).length = cut := by rw [List.length_take]; omega
        rw [show (!(List.map V.ref (List.take cut ps)).isEmpty) = true by
          cases z : List.map V.ref (List.take cut ps) with
          | nil => have := congrArg List.length z; rw [List.length_map, lpt, lt] at this; exact absurd this c0
          | cons x y => rfl]
        show if true = true then _ else _
        walk_at "rx"
        have hk : cut - 1 < (ss.take cut).length := by omega
        obtain ⟨p, g1, u, g2, g3⟩ := tsc.at hk
        refine rd_ixL (SqL.of hPc) (show atI ((ps.take cut).map V.ref) ((cut : Int) - 1) = some (.ref p) by
          rw [show (cut : Int) - 1 = ((cut - 1 : Nat) : Int) by omega]
          exact atI_nat (by rw [List.getElem?_map, g1]; rfl)) ?_
        walk_at "rx"
        have ne : ss.take cut ≠ [] := fun z => by rw [z] at lt; exact c0 lt.symm
        have e9 : (ss.take cut)[cut - 1].2 = e2 := by
          rw [← CK.last ch2 ne, List.getLast_eq_getElem]
          simp only [lt]
        rw [e9] at g3
        refine ⟨a, u, r, M, e2, len, rfl, hsc, g3, v2, ?_⟩
        walk_at "rx"
        exact ⟨rfl, rfl⟩
    rintro σ' H' ⟨rfl, rfl⟩
    walk_at "rx"
    refine lc_acc (walk_list (xs := (ps.take cut).map V.ref)) (fun i acc => acc = (lnz ((ss.take cut).take i)).map V.int) rfl (fun i acc hi e => by
      rw [e, List.length_map]
      unfold lnz
      rw [List.length_map]
      have h1 := List.length_filter_le (fun s : Stp => decide (0 ≤ s.1)) ((ss.take cut).take i)
      rw [List.length_take] at h1
      have h3 : (ss.take cut).length ≤ 300 := c300
      omega) (fun H' S => SqL.of (S _ _ hPc)) ?_ ?_
    · rintro i x Hx Hy acc Qc R hi2 Sx rfl ⟨rfl, ex⟩ qc rc
      rw [List.length_map] at hi2
      have lp := (tsc).1
      have hil : i < (ss.take cut).length := by rw [← lp]; exact hi2
      obtain ⟨b, e1, e2⟩ := ((tsc).same Sx).at hil
      rw [List.getElem?_map, e1] at ex
      cases ex
      obtain ⟨u, hb, _⟩ := e2
      have tk : (ss.take cut).take (i + 1) = (ss.take cut).take i ++ [(ss.take cut)[i]] := by rw [List.take_succ, List.getElem?_eq_getElem hil]; rfl
      walk_at "rx"
      refine ⟨rfl, ?_⟩
      walk_at "rx"
      by_cases z : (0 : Int) ≤ ((ss.take cut)[i]).1
      · rw [decide_eq_true z]
        show if true = true then _ else _
        walk_at "rx"
        refine qc _ _ (Same.refl _) ?_
        rw [tk]
        unfold lnz
        rw [List.filter_append, List.filter_cons, if_pos (decide_eq_true z), List.filter_nil, List.map_append, List.map_append]
        rfl
      · rw [decide_eq_false z]
        show if false = true then _ else _
        refine rc _ (Same.refl _) ?_
        rw [tk]
        unfold lnz
        rw [List.filter_append, List.filter_cons, if_neg (by rw [decide_eq_true_eq]; exact z), List.filter_nil, List.append_nil]
    intro Hd D2 acc2 Sd nD2 hD2 pp
    rw [List.length_map, lpt, List.take_length] at pp
    subst pp
    have h9b : ((lnz (ss.take cut)).map V.int).length ≤ 1000 := by
      unfold lnz
      rw [List.length_map, List.length_map]
      have := List.length_filter_le (fun s : Stp => decide (0 ≤ s.1)) (ss.take cut)
      omega
    walk_at "rx"
    refine rd_newL fun He T3 Se nT3 hT3 => ?_
    have hT2e := (Sd.trans Se) _ _ hT2
    refine rd_ned (.tup (SqT.of hT2e) (dp_ints (lnz (ss.take cut)))) (.tup (SqT.of hT3) (dp_ints (lnz (ss.take cut)))) (k := 1) (Sh.tuple fun d hd => by obtain ⟨i, _, rfl⟩ := List.mem_map.mp hd; exact Sh.int _) (by decide) ?_
    refine ⟨false, rfl, ?_⟩
    show if false = true then _ else _
    walk_at "rx"
    refine ⟨T2, lnz (ss.take cut), f2, rfl, hT2e, mf2, ?_⟩
    walk_at "rx"
    rw [decide_eq_false (show ¬ ((f2 : Int) < 0) by omega)]
    show if false = true then _ else _
    walk_at "rx"
    refine ite2 (fun z => ?_) (fun z => ?_)
    · have em : f2 = len := end_many hm2 ml2 z
      walk_at "rx"
      refine ⟨T2, lnz (ss.take cut), f2, rfl, hT2e, mf2, ?_⟩
      walk_at "rx"
      rw [decide_eq_true (show V.int (f2 : Int) = V.int (len : Int) by rw [em])]
      show if false = true then _ else _
      walk_at "rx"
      refine rd_newL fun Hf cf Sf nf hf => ?_
      have S1f := ((S1c.trans Sd).trans Se).trans Sf
      have Scf := (Sd.trans Se).trans Sf
      walk_at "rx"
      refine ⟨x, cf, ps.take cut, r, ss.take cut, e2, f2, len, rfl, hx.same S1f, ok, hf, tsc.same Scf, l60, ch2, fun Hg Sg => ?_⟩
      walk_at "rx"
      show if false = true then _ else _
      have hPg := (Scf.trans Sg) _ _ hPc
      walk_at "rx"
      refine rd_newL fun Hh ch_ Sh_ nh hh => ?_
      have S1h := (S1f.trans Sg).trans Sh_
      have Sch := (Scf.trans Sg).trans Sh_
      walk_at "rx"
      refine ⟨x, ch_, ps.take cut, r, ss.take cut, e2, f2, len, rfl, hx.same S1h, ok, hh, tsc.same Sch, l60, ch2, fun Hi Si => ?_⟩
      walk_at "rx"
      exact ⟨_, rfl, q Hi (S1.trans (S1h.trans Si))⟩
    · walk_at "rx"
      walk_at "rx"
      refine rd_newL fun Hf cf Sf nf hf => ?_
      have S1f := ((S1c.trans Sd).trans Se).trans Sf
      have Scf := (Sd.trans Se).trans Sf
      walk_at "rx"
      refine ⟨x, cf, ps.take cut, r, ss.take cut, e2, f2, len, rfl, hx.same S1f, ok, hf, tsc.same Scf, l60, ch2, fun Hg Sg => ?_⟩
      walk_at "rx"
      show if false = true then _ else _
      have hPg := (Scf.trans Sg) _ _ hPc
      walk_at "rx"
      refine rd_newL fun Hh ch_ Sh_ nh hh => ?_
      have S1h := (S1f.trans Sg).trans Sh_
      have Sch := (Scf.trans Sg).trans Sh_
      walk_at "rx"
      refine ⟨x, ch_, ps.take cut, r, ss.take cut, e2, f2, len, rfl, hx.same S1h, ok, hh, tsc.same Sch, l60, ch2, fun Hi Si => ?_⟩
      walk_at "rx"
      exact ⟨_, rfl, q Hi (S1.trans (S1h.trans Si))⟩
def splaw (K : PySem.W.Frag) : Sp := fun vs H Q _ => ∃ (a : Addr) (ns : List Int), vs = [.ref a] ∧ SqL K H a (ns.map V.int) ∧ ns.length ≤ 63 ∧ ∀ H', Q (.bl true) H'
set_option maxHeartbeats 4000000 in
theorem oklaw (T : Top K mg) {f : Addr} {fd : FuncData} (D : Def K mg "law" slaw ["script"] f fd) : FnOk P w K mg base CX0 8 f fd ["script"] (splaw K) := by
  obtain ⟨f_law_box, fd_law_box, D_law_box⟩ := T.d__law_box
  have G_law_box : FnOk P w K mg base CX0 1 f_law_box fd_law_box ["script"] (sp_law_box K) := ok_law_box T D_law_box
  obtain ⟨f_law_draw, fd_law_draw, D_law_draw⟩ := T.d__law_draw
  have G_law_draw : FnOk P w K mg base CX0 1 f_law_draw fd_law_draw ["box", "many"] (sp_law_draw K) := ok_law_draw T D_law_draw
  obtain ⟨f_law_spec, fd_law_spec, D_law_spec⟩ := T.d__law_spec
  have G_law_spec : FnOk P w K mg base CX0 4 f_law_spec fd_law_spec ["box", "length"] (sp_law_spec K) := ok_law_spec T D_law_spec
  obtain ⟨f_law_run_ends, fd_law_run_ends, D_law_run_ends⟩ := T.d__law_run_ends
  have G_law_run_ends : FnOk P w K mg base CX0 7 f_law_run_ends fd_law_run_ends ["box", "spec", "length", "drawn"] (sp_law_run_ends K) := ok_law_run_ends T D_law_run_ends
  obtain ⟨f_law_judged, fd_law_judged, D_law_judged⟩ := T.d__law_judged
  have G_law_judged : FnOk P w K mg base CX0 7 f_law_judged fd_law_judged ["spec", "length", "run", "cut"] (sp_law_judged K) := ok_law_judged T D_law_judged
  refine D.F.ok sclaw (fun vs H Q E h => ?_) (fun cdv A outer s H vs Q E hr h => ?_)
  · obtain ⟨a, ns, rfl, _⟩ := h
    rfl
  · obtain ⟨a, ns, rfl, hS, hl, q⟩ := h
    have pick : ∀ (x y : Int) (b : Bool), atI [V.int x, V.int y] (if b = true then 1 else 0) = some (V.int (if b = true then y else x)) := fun x y b => by cases b <;> rfl
    have h3 : -100000 ≤ (3 : Int) ∧ (3 : Int) ≤ 100000 := by decide
    refine ⟨_, (pss_cons (ps_set (i := 1) sclaw.nd rfl (.inl rfl) (pe_call G_law_box (hr.mono (by decide)) (by rfl) D_law_box.g D_law_box.F.kp D_law_box.b .nil pass0 (pa_cons (pv 0) pa_nil)))
    (pss_cons (ps_for PassesOwn.never rfl (pi_range1 (by rfl) T.b_range (pa_cons pe_int pa_nil)) (pg_name (i := 2) sclaw.nd rfl (.inl rfl)) (pss_cons (ps_set (i := 3) sclaw.nd rfl (.inl rfl) (pe_call G_law_draw (hr.mono (by decide)) (by rfl) D_law_draw.g D_law_draw.F.kp D_law_draw.b .nil pass0 (pa_cons (pv 1) (pa_cons (pe_ix (r := rIxL K) ix_list (pe_lst (pa_cons pe_int (pa_cons pe_int pa_nil))) (pe_callTy (r := rIntB) call_intB (by rfl) T.b_int (by decide +kernel) (pa_cons (pe_cmpR op_eq (pe_call G_law_draw (hr.mono (by decide)) (by rfl) D_law_draw.g D_law_draw.F.kp D_law_draw.b .nil pass0 (pa_cons (pv 1) (pa_cons pe_int pa_nil))) pe_int (nomark _)) pa_nil)) (fun _ _ => rfl)) pa_nil))))
    (pss_cons (ps_set (i := 4) sclaw.nd rfl (.inl rfl) (pe_call G_law_spec (hr.mono (by decide)) (by rfl) D_law_spec.g D_law_spec.F.kp D_law_spec.b .nil pass0 (pa_cons (pv 1) (pa_cons (pv 3) pa_nil))))
    (pss_cons (ps_set (i := 5) sclaw.nd rfl (.inl rfl) (pe_call G_law_draw (hr.mono (by decide)) (by rfl) D_law_draw.g D_law_draw.F.kp D_law_draw.b .nil pass0 (pa_cons (pv 1) (pa_cons (pe_ix (r := rIxL K) ix_list (pe_lst (pa_cons pe_int (pa_cons pe_int pa_nil))) (pe_callTy (r := rIntB) call_intB (by rfl) T.b_int (by decide +kernel) (pa_cons (pe_cmpR op_eq (pe_call G_law_draw (hr.mono (by decide)) (by rfl) D_law_draw.g D_law_draw.F.kp D_law_draw.b .nil pass0 (pa_cons (pv 1) (pa_cons pe_int pa_nil))) pe_int (nomark _)) pa_nil)) (fun _ _ => rfl)) pa_nil))))
    (pss_cons (ps_set (i := 6) sclaw.nd rfl (.inl rfl) (pe_call G_law_run_ends hr (by rfl) D_law_run_ends.g D_law_run_ends.F.kp D_law_run_ends.b .nil pass0 (pa_cons (pv 1) (pa_cons (pv 4) (pa_cons (pv 3) (pa_cons (pv 5) pa_nil))))))
    (pss_cons (ps_if (pt_cmpR op_isNQ (pv 6) pe_non (nomark _)) (pss_one (ps_ret pe_bl)) pss_nil)
    (pss_one (ps_if (pt_not (pt_val (pe_call G_law_judged hr (by rfl) D_law_judged.g D_law_judged.F.kp D_law_judged.b .nil pass0 (pa_cons (pv 4) (pa_cons (pv 3) (pa_cons (pv 6) (pa_cons (pe_call G_law_draw (hr.mono (by decide)) (by rfl) D_law_draw.g D_law_draw.F.kp D_law_draw.b .nil pass0 (pa_cons (pv 1) (pa_cons (pe_op op_add (pe_callB (r := rLenQ K) call_lenQ (by rfl) T.b_len PySem.boot_len (pa_cons (pv 6) pa_nil)) pe_int) pa_nil))) pa_nil))))))) (pss_one (ps_ret pe_bl)) pss_nil))))))))
    (pss_one (ps_ret pe_bl)))), ?_⟩
    walk_at "rx"
    refine ⟨a, ns, rfl, hS, hl, fun H1 B hB i1 _ => ?_⟩
    walk_at "rx"
    refine fr_rng0 (fun i σ H' => ∃ (y2 y3 y4 y5 y6 : Option V), σ = [some (.ref a), some (.ref B.b), y2, y3, y4, y5, y6] ∧ Wg B H1 H') ⟨none, none, none, none, none, rfl, Wg.refl i1⟩ ?_ ?_
    · rintro i σ H2 hi ⟨y2, y3, y4, y5, y6, rfl, w2⟩
      walk_at "rx"
      refine rd_newQ (by simp) fun H3 L3 S3 n3 h3 => ?_
      have w3 := w2.same S3
      walk_at "rx"
      refine ⟨B, 4, rfl, hB, w3.i1, by decide, by decide, fun H4 d4 w4 hd4 => ?_⟩
      have h4 := w4.lst (B.nem w2.i1 n3) h3
      have w04 := w3.trans w4
      walk_at "rx"
      refine rd_intB ?_
      refine rd_ixL (SqL.of h4) (pick 9 61 _) ?_
      walk_at "rx"
      refine ⟨B, _, rfl, hB, w04.i1, by split <;> decide, by split <;> decide, fun H5 len w5 hl5 => ?_⟩
      have l60 : len ≤ 60 := by split at hl5 <;> omega
      have w05 := w04.trans w5
      walk_at "rx"
      refine ⟨B, len, rfl, hB, w05.i1, l60, fun H6 s r w6 ok l4 sp => ?_⟩
      have w06 := w05.trans w6
      walk_at "rx"
      refine rd_newQ (by simp) fun H7 L7 S7 n7 h7 => ?_
      have w07 := w06.same S7
      walk_at "rx"
      refine ⟨B, 4, rfl, hB, w07.i1, by decide, by decide, fun H8 d8 w8 hd8 => ?_⟩
      have h8 := w8.lst (B.nem w06.i1 n7) h7
      have w08 := w07.trans w8
      walk_at "rx"
      refine rd_intB ?_
      refine rd_ixL (SqL.of h8) (pick 20 60 _) ?_
      walk_at "rx"
      refine ⟨B, _, rfl, hB, w08.i1, by split <;> decide, by split <;> decide, fun H9 drawn w9 hd9 => ?_⟩
      have d60 : drawn ≤ 60 := by split at hd9 <;> omega
      have w09 := w08.trans w9
      have sp9 := ((sp.kp (KpM.same S7)).kp (KpM.wg w8)).kp (KpM.wg w9)
      walk_at "rx"
      refine ⟨B, s, r, len, drawn, rfl, hB, w09.i1, sp9, ok, l4, l60, d60, fun Ha l ps ss e wa ml hla ts ch ze s300 => ?_⟩
      have w0a := w09.trans wa
      have lps := ts.1
      walk_at "rx"
      rw [decide_eq_false (show ¬ (V.ref l = V.non) from fun h => by cases h)]
      show if false = true then _ else _
      have l0 : (ps.map V.ref).length ≤ 300 := by rw [List.length_map, lps]; exact s300
      walk_at "rx"
      refine ⟨B, _, rfl, hB, w0a.i1, by omega, by omega, fun Hb cut wb hcut => ?_⟩
      rw [List.length_map, lps] at hcut
      have w0b := w0a.trans wb
      have sp0 := (sp9.kp (KpM.wg wa)).kp (KpM.wg wb)
      walk_at "rx"
      refine ⟨s, l, r, B.m, ps, ss, e, len, cut, rfl, sp0, ok, l4, wb.lst ml hla, ts.ko (Ko.wg wb), ch, ze, l60, s300, by omega, fun Hc Sc => ?_⟩
      walk_at "rx"
      exact ⟨_, _, _, _, _, rfl, w0b.same Sc⟩
    · rintro σ H2 ⟨y2, y3, y4, y5, y6, rfl, w2⟩
      walk_at "rx"
      exact q _
end
theorem all_mk {l : PySem.W.OpenLaw} {w : World} {K : PySem.W.Frag} {h : Heap} {mg : Str → Option Value} {fa : Addr} (X : K.In h) (G : h.Ns mainGlobals mg) (hfa : mg "law" = some (.ref fa))
    {f0 : Addr} {od0 an0 : Option Addr} {sl0 : Array (Option Value)} {oc0 kV0 dc0 pm0 cd0 ct0 : Value}
    (a0 : PySem.W.nsIn K mainGlobals "is_between" = some (some (.ref f0))) (l0 : K.lookup f0 = some ⟨oc0, od0, .func (PySem.W.fnOf "is_between" "is_between" (defArgs sis_between) (defBody sis_between) (defScope sis_between) .none kV0 dc0 pm0 an0 cd0 ct0), sl0⟩) (c0 : PySem.W.codeIn K cd0 "is_between" = true) (k0 : PySem.W.keepIn K (.ref f0) = true)
    {f1 : Addr} {od1 an1 : Option Addr} {sl1 : Array (Option Value)} {oc1 kV1 dc1 pm1 cd1 ct1 : Value}
    (a1 : PySem.W.nsIn K mainGlobals "are_ascending" = some (some (.ref f1))) (l1 : K.lookup f1 = some ⟨oc1, od1, .func (PySem.W.fnOf "are_ascending" "are_ascending" (defArgs sare_ascending) (defBody sare_ascending) (defScope sare_ascending) .none kV1 dc1 pm1 an1 cd1 ct1), sl1⟩) (c1 : PySem.W.codeIn K cd1 "are_ascending" = true) (k1 : PySem.W.keepIn K (.ref f1) = true)
    {f2 : Addr} {od2 an2 : Option Addr} {sl2 : Array (Option Value)} {oc2 kV2 dc2 pm2 cd2 ct2 : Value}
    (a2 : PySem.W.nsIn K mainGlobals "is_simple" = some (some (.ref f2))) (l2 : K.lookup f2 = some ⟨oc2, od2, .func (PySem.W.fnOf "is_simple" "is_simple" (defArgs sis_simple) (defBody sis_simple) (defScope sis_simple) .none kV2 dc2 pm2 an2 cd2 ct2), sl2⟩) (c2 : PySem.W.codeIn K cd2 "is_simple" = true) (k2 : PySem.W.keepIn K (.ref f2) = true)
    {f3 : Addr} {od3 an3 : Option Addr} {sl3 : Array (Option Value)} {oc3 kV3 dc3 pm3 cd3 ct3 : Value}
    (a3 : PySem.W.nsIn K mainGlobals "_ahead" = some (some (.ref f3))) (l3 : K.lookup f3 = some ⟨oc3, od3, .func (PySem.W.fnOf "_ahead" "_ahead" (defArgs s_ahead) (defBody s_ahead) (defScope s_ahead) .none kV3 dc3 pm3 an3 cd3 ct3), sl3⟩) (c3 : PySem.W.codeIn K cd3 "_ahead" = true) (k3 : PySem.W.keepIn K (.ref f3) = true)
    {f4 : Addr} {od4 an4 : Option Addr} {sl4 : Array (Option Value)} {oc4 kV4 dc4 pm4 cd4 ct4 : Value}
    (a4 : PySem.W.nsIn K mainGlobals "_parts" = some (some (.ref f4))) (l4 : K.lookup f4 = some ⟨oc4, od4, .func (PySem.W.fnOf "_parts" "_parts" (defArgs s_parts) (defBody s_parts) (defScope s_parts) .none kV4 dc4 pm4 an4 cd4 ct4), sl4⟩) (c4 : PySem.W.codeIn K cd4 "_parts" = true) (k4 : PySem.W.keepIn K (.ref f4) = true)
    {f5 : Addr} {od5 an5 : Option Addr} {sl5 : Array (Option Value)} {oc5 kV5 dc5 pm5 cd5 ct5 : Value}
    (a5 : PySem.W.nsIn K mainGlobals "_moved" = some (some (.ref f5))) (l5 : K.lookup f5 = some ⟨oc5, od5, .func (PySem.W.fnOf "_moved" "_moved" (defArgs s_moved) (defBody s_moved) (defScope s_moved) .none kV5 dc5 pm5 an5 cd5 ct5), sl5⟩) (c5 : PySem.W.codeIn K cd5 "_moved" = true) (k5 : PySem.W.keepIn K (.ref f5) = true)
    {f6 : Addr} {od6 an6 : Option Addr} {sl6 : Array (Option Value)} {oc6 kV6 dc6 pm6 cd6 ct6 : Value}
    (a6 : PySem.W.nsIn K mainGlobals "is_run" = some (some (.ref f6))) (l6 : K.lookup f6 = some ⟨oc6, od6, .func (PySem.W.fnOf "is_run" "is_run" (defArgs sis_run) (defBody sis_run) (defScope sis_run) .none kV6 dc6 pm6 an6 cd6 ct6), sl6⟩) (c6 : PySem.W.codeIn K cd6 "is_run" = true) (k6 : PySem.W.keepIn K (.ref f6) = true)
    {f7 : Addr} {od7 an7 : Option Addr} {sl7 : Array (Option Value)} {oc7 kV7 dc7 pm7 cd7 ct7 : Value}
    (a7 : PySem.W.nsIn K mainGlobals "is_complete" = some (some (.ref f7))) (l7 : K.lookup f7 = some ⟨oc7, od7, .func (PySem.W.fnOf "is_complete" "is_complete" (defArgs sis_complete) (defBody sis_complete) (defScope sis_complete) .none kV7 dc7 pm7 an7 cd7 ct7), sl7⟩) (c7 : PySem.W.codeIn K cd7 "is_complete" = true) (k7 : PySem.W.keepIn K (.ref f7) = true)
    {f8 : Addr} {od8 an8 : Option Addr} {sl8 : Array (Option Value)} {oc8 kV8 dc8 pm8 cd8 ct8 : Value}
    (a8 : PySem.W.nsIn K mainGlobals "executed" = some (some (.ref f8))) (l8 : K.lookup f8 = some ⟨oc8, od8, .func (PySem.W.fnOf "executed" "executed" (defArgs sexecuted) (defBody sexecuted) (defScope sexecuted) .none kV8 dc8 pm8 an8 cd8 ct8), sl8⟩) (c8 : PySem.W.codeIn K cd8 "executed" = true) (k8 : PySem.W.keepIn K (.ref f8) = true)
    {f9 : Addr} {od9 an9 : Option Addr} {sl9 : Array (Option Value)} {oc9 kV9 dc9 pm9 cd9 ct9 : Value}
    (a9 : PySem.W.nsIn K mainGlobals "_is_possible" = some (some (.ref f9))) (l9 : K.lookup f9 = some ⟨oc9, od9, .func (PySem.W.fnOf "_is_possible" "_is_possible" (defArgs s_is_possible) (defBody s_is_possible) (defScope s_is_possible) .none kV9 dc9 pm9 an9 cd9 ct9), sl9⟩) (c9 : PySem.W.codeIn K cd9 "_is_possible" = true) (k9 : PySem.W.keepIn K (.ref f9) = true)
    {f10 : Addr} {od10 an10 : Option Addr} {sl10 : Array (Option Value)} {oc10 kV10 dc10 pm10 cd10 ct10 : Value}
    (a10 : PySem.W.nsIn K mainGlobals "_state_behind" = some (some (.ref f10))) (l10 : K.lookup f10 = some ⟨oc10, od10, .func (PySem.W.fnOf "_state_behind" "_state_behind" (defArgs s_state_behind) (defBody s_state_behind) (defScope s_state_behind) .none kV10 dc10 pm10 an10 cd10 ct10), sl10⟩) (c10 : PySem.W.codeIn K cd10 "_state_behind" = true) (k10 : PySem.W.keepIn K (.ref f10) = true)
    {f11 : Addr} {od11 an11 : Option Addr} {sl11 : Array (Option Value)} {oc11 kV11 dc11 pm11 cd11 ct11 : Value}
    (a11 : PySem.W.nsIn K mainGlobals "_law_box" = some (some (.ref f11))) (l11 : K.lookup f11 = some ⟨oc11, od11, .func (PySem.W.fnOf "_law_box" "_law_box" (defArgs s_law_box) (defBody s_law_box) (defScope s_law_box) .none kV11 dc11 pm11 an11 cd11 ct11), sl11⟩) (c11 : PySem.W.codeIn K cd11 "_law_box" = true) (k11 : PySem.W.keepIn K (.ref f11) = true)
    {f12 : Addr} {od12 an12 : Option Addr} {sl12 : Array (Option Value)} {oc12 kV12 dc12 pm12 cd12 ct12 : Value}
    (a12 : PySem.W.nsIn K mainGlobals "_law_draw" = some (some (.ref f12))) (l12 : K.lookup f12 = some ⟨oc12, od12, .func (PySem.W.fnOf "_law_draw" "_law_draw" (defArgs s_law_draw) (defBody s_law_draw) (defScope s_law_draw) .none kV12 dc12 pm12 an12 cd12 ct12), sl12⟩) (c12 : PySem.W.codeIn K cd12 "_law_draw" = true) (k12 : PySem.W.keepIn K (.ref f12) = true)
    {f13 : Addr} {od13 an13 : Option Addr} {sl13 : Array (Option Value)} {oc13 kV13 dc13 pm13 cd13 ct13 : Value}
    (a13 : PySem.W.nsIn K mainGlobals "_law_ascending" = some (some (.ref f13))) (l13 : K.lookup f13 = some ⟨oc13, od13, .func (PySem.W.fnOf "_law_ascending" "_law_ascending" (defArgs s_law_ascending) (defBody s_law_ascending) (defScope s_law_ascending) .none kV13 dc13 pm13 an13 cd13 ct13), sl13⟩) (c13 : PySem.W.codeIn K cd13 "_law_ascending" = true) (k13 : PySem.W.keepIn K (.ref f13) = true)
    {f14 : Addr} {od14 an14 : Option Addr} {sl14 : Array (Option Value)} {oc14 kV14 dc14 pm14 cd14 ct14 : Value}
    (a14 : PySem.W.nsIn K mainGlobals "_law_leaf" = some (some (.ref f14))) (l14 : K.lookup f14 = some ⟨oc14, od14, .func (PySem.W.fnOf "_law_leaf" "_law_leaf" (defArgs s_law_leaf) (defBody s_law_leaf) (defScope s_law_leaf) .none kV14 dc14 pm14 an14 cd14 ct14), sl14⟩) (c14 : PySem.W.codeIn K cd14 "_law_leaf" = true) (k14 : PySem.W.keepIn K (.ref f14) = true)
    {f15 : Addr} {od15 an15 : Option Addr} {sl15 : Array (Option Value)} {oc15 kV15 dc15 pm15 cd15 ct15 : Value}
    (a15 : PySem.W.nsIn K mainGlobals "_law_spec" = some (some (.ref f15))) (l15 : K.lookup f15 = some ⟨oc15, od15, .func (PySem.W.fnOf "_law_spec" "_law_spec" (defArgs s_law_spec) (defBody s_law_spec) (defScope s_law_spec) .none kV15 dc15 pm15 an15 cd15 ct15), sl15⟩) (c15 : PySem.W.codeIn K cd15 "_law_spec" = true) (k15 : PySem.W.keepIn K (.ref f15) = true)
    {f16 : Addr} {od16 an16 : Option Addr} {sl16 : Array (Option Value)} {oc16 kV16 dc16 pm16 cd16 ct16 : Value}
    (a16 : PySem.W.nsIn K mainGlobals "_law_joined" = some (some (.ref f16))) (l16 : K.lookup f16 = some ⟨oc16, od16, .func (PySem.W.fnOf "_law_joined" "_law_joined" (defArgs s_law_joined) (defBody s_law_joined) (defScope s_law_joined) .none kV16 dc16 pm16 an16 cd16 ct16), sl16⟩) (c16 : PySem.W.codeIn K cd16 "_law_joined" = true) (k16 : PySem.W.keepIn K (.ref f16) = true)
    {f17 : Addr} {od17 an17 : Option Addr} {sl17 : Array (Option Value)} {oc17 kV17 dc17 pm17 cd17 ct17 : Value}
    (a17 : PySem.W.nsIn K mainGlobals "_law_made" = some (some (.ref f17))) (l17 : K.lookup f17 = some ⟨oc17, od17, .func (PySem.W.fnOf "_law_made" "_law_made" (defArgs s_law_made) (defBody s_law_made) (defScope s_law_made) .none kV17 dc17 pm17 an17 cd17 ct17), sl17⟩) (c17 : PySem.W.codeIn K cd17 "_law_made" = true) (k17 : PySem.W.keepIn K (.ref f17) = true)
    {f18 : Addr} {od18 an18 : Option Addr} {sl18 : Array (Option Value)} {oc18 kV18 dc18 pm18 cd18 ct18 : Value}
    (a18 : PySem.W.nsIn K mainGlobals "_law_size" = some (some (.ref f18))) (l18 : K.lookup f18 = some ⟨oc18, od18, .func (PySem.W.fnOf "_law_size" "_law_size" (defArgs s_law_size) (defBody s_law_size) (defScope s_law_size) .none kV18 dc18 pm18 an18 cd18 ct18), sl18⟩) (c18 : PySem.W.codeIn K cd18 "_law_size" = true) (k18 : PySem.W.keepIn K (.ref f18) = true)
    {f19 : Addr} {od19 an19 : Option Addr} {sl19 : Array (Option Value)} {oc19 kV19 dc19 pm19 cd19 ct19 : Value}
    (a19 : PySem.W.nsIn K mainGlobals "_law_ended" = some (some (.ref f19))) (l19 : K.lookup f19 = some ⟨oc19, od19, .func (PySem.W.fnOf "_law_ended" "_law_ended" (defArgs s_law_ended) (defBody s_law_ended) (defScope s_law_ended) .none kV19 dc19 pm19 an19 cd19 ct19), sl19⟩) (c19 : PySem.W.codeIn K cd19 "_law_ended" = true) (k19 : PySem.W.keepIn K (.ref f19) = true)
    {f20 : Addr} {od20 an20 : Option Addr} {sl20 : Array (Option Value)} {oc20 kV20 dc20 pm20 cd20 ct20 : Value}
    (a20 : PySem.W.nsIn K mainGlobals "_law_is_integer" = some (some (.ref f20))) (l20 : K.lookup f20 = some ⟨oc20, od20, .func (PySem.W.fnOf "_law_is_integer" "_law_is_integer" (defArgs s_law_is_integer) (defBody s_law_is_integer) (defScope s_law_is_integer) .none kV20 dc20 pm20 an20 cd20 ct20), sl20⟩) (c20 : PySem.W.codeIn K cd20 "_law_is_integer" = true) (k20 : PySem.W.keepIn K (.ref f20) = true)
    {f21 : Addr} {od21 an21 : Option Addr} {sl21 : Array (Option Value)} {oc21 kV21 dc21 pm21 cd21 ct21 : Value}
    (a21 : PySem.W.nsIn K mainGlobals "_law_are_steps" = some (some (.ref f21))) (l21 : K.lookup f21 = some ⟨oc21, od21, .func (PySem.W.fnOf "_law_are_steps" "_law_are_steps" (defArgs s_law_are_steps) (defBody s_law_are_steps) (defScope s_law_are_steps) .none kV21 dc21 pm21 an21 cd21 ct21), sl21⟩) (c21 : PySem.W.codeIn K cd21 "_law_are_steps" = true) (k21 : PySem.W.keepIn K (.ref f21) = true)
    {f22 : Addr} {od22 an22 : Option Addr} {sl22 : Array (Option Value)} {oc22 kV22 dc22 pm22 cd22 ct22 : Value}
    (a22 : PySem.W.nsIn K mainGlobals "_law_is_truth" = some (some (.ref f22))) (l22 : K.lookup f22 = some ⟨oc22, od22, .func (PySem.W.fnOf "_law_is_truth" "_law_is_truth" (defArgs s_law_is_truth) (defBody s_law_is_truth) (defScope s_law_is_truth) .none kV22 dc22 pm22 an22 cd22 ct22), sl22⟩) (c22 : PySem.W.codeIn K cd22 "_law_is_truth" = true) (k22 : PySem.W.keepIn K (.ref f22) = true)
    {f23 : Addr} {od23 an23 : Option Addr} {sl23 : Array (Option Value)} {oc23 kV23 dc23 pm23 cd23 ct23 : Value}
    (a23 : PySem.W.nsIn K mainGlobals "_law_many" = some (some (.ref f23))) (l23 : K.lookup f23 = some ⟨oc23, od23, .func (PySem.W.fnOf "_law_many" "_law_many" (defArgs s_law_many) (defBody s_law_many) (defScope s_law_many) .none kV23 dc23 pm23 an23 cd23 ct23), sl23⟩) (c23 : PySem.W.codeIn K cd23 "_law_many" = true) (k23 : PySem.W.keepIn K (.ref f23) = true)
    {f24 : Addr} {od24 an24 : Option Addr} {sl24 : Array (Option Value)} {oc24 kV24 dc24 pm24 cd24 ct24 : Value}
    (a24 : PySem.W.nsIn K mainGlobals "_law_run_ends" = some (some (.ref f24))) (l24 : K.lookup f24 = some ⟨oc24, od24, .func (PySem.W.fnOf "_law_run_ends" "_law_run_ends" (defArgs s_law_run_ends) (defBody s_law_run_ends) (defScope s_law_run_ends) .none kV24 dc24 pm24 an24 cd24 ct24), sl24⟩) (c24 : PySem.W.codeIn K cd24 "_law_run_ends" = true) (k24 : PySem.W.keepIn K (.ref f24) = true)
    {f25 : Addr} {od25 an25 : Option Addr} {sl25 : Array (Option Value)} {oc25 kV25 dc25 pm25 cd25 ct25 : Value}
    (a25 : PySem.W.nsIn K mainGlobals "_law_judged" = some (some (.ref f25))) (l25 : K.lookup f25 = some ⟨oc25, od25, .func (PySem.W.fnOf "_law_judged" "_law_judged" (defArgs s_law_judged) (defBody s_law_judged) (defScope s_law_judged) .none kV25 dc25 pm25 an25 cd25 ct25), sl25⟩) (c25 : PySem.W.codeIn K cd25 "_law_judged" = true) (k25 : PySem.W.keepIn K (.ref f25) = true)
    {f26 : Addr} {od26 an26 : Option Addr} {sl26 : Array (Option Value)} {oc26 kV26 dc26 pm26 cd26 ct26 : Value}
    (a26 : PySem.W.nsIn K mainGlobals "law" = some (some (.ref f26))) (l26 : K.lookup f26 = some ⟨oc26, od26, .func (PySem.W.fnOf "law" "law" (defArgs slaw) (defBody slaw) (defScope slaw) .none kV26 dc26 pm26 an26 cd26 ct26), sl26⟩) (c26 : PySem.W.codeIn K cd26 "law" = true) (k26 : PySem.W.keepIn K (.ref f26) = true)
    (z0 : PySem.W.nsIn K mainGlobals "abs" = some none)
    (z1 : PySem.W.nsIn K mainGlobals "all" = some none)
    (z2 : PySem.W.nsIn K mainGlobals "bool" = some none)
    (z3 : PySem.W.nsIn K mainGlobals "int" = some none)
    (z4 : PySem.W.nsIn K mainGlobals "isinstance" = some none)
    (z5 : PySem.W.nsIn K mainGlobals "len" = some none)
    (z6 : PySem.W.nsIn K mainGlobals "list" = some none)
    (z7 : PySem.W.nsIn K mainGlobals "max" = some none)
    (z8 : PySem.W.nsIn K mainGlobals "range" = some none)
    (z9 : PySem.W.nsIn K mainGlobals "set" = some none)
    (z10 : PySem.W.nsIn K mainGlobals "sorted" = some none)
    (z11 : PySem.W.nsIn K mainGlobals "tuple" = some none)
    (z12 : PySem.W.nsIn K mainGlobals "zip" = some none)
    {C_Rule : Addr}
    (gC_Rule : PySem.W.nsIn K mainGlobals "Rule" = some (some (.ref C_Rule)))
    (gP_Rule : PySem.W.plainGet K C_Rule Str.empty = true)
    (gH_Rule : PySem.W.hasDictIn K C_Rule = true)
    (gO_Rule : PySem.W.plainOver K C_Rule = true)
    (gS_Rule : PySem.W.findIn K (.ref C_Rule) "__setattr__" = some (some (.builtin "object.__setattr__")))
    (gK_Rule : PySem.W.keepIn K (.ref C_Rule) = true)
    {C_FromTop : Addr}
    (gC_FromTop : PySem.W.nsIn K mainGlobals "FromTop" = some (some (.ref C_FromTop)))
    (gP_FromTop : PySem.W.plainGet K C_FromTop Str.empty = true)
    (gH_FromTop : PySem.W.hasDictIn K C_FromTop = true)
    (gO_FromTop : PySem.W.plainOver K C_FromTop = true)
    (gS_FromTop : PySem.W.findIn K (.ref C_FromTop) "__setattr__" = some (some (.builtin "object.__setattr__")))
    (gK_FromTop : PySem.W.keepIn K (.ref C_FromTop) = true)
    {C_FromMark : Addr}
    (gC_FromMark : PySem.W.nsIn K mainGlobals "FromMark" = some (some (.ref C_FromMark)))
    (gP_FromMark : PySem.W.plainGet K C_FromMark Str.empty = true)
    (gH_FromMark : PySem.W.hasDictIn K C_FromMark = true)
    (gO_FromMark : PySem.W.plainOver K C_FromMark = true)
    (gS_FromMark : PySem.W.findIn K (.ref C_FromMark) "__setattr__" = some (some (.builtin "object.__setattr__")))
    (gK_FromMark : PySem.W.keepIn K (.ref C_FromMark) = true)
    {C_FromPoints : Addr}
    (gC_FromPoints : PySem.W.nsIn K mainGlobals "FromPoints" = some (some (.ref C_FromPoints)))
    (gP_FromPoints : PySem.W.plainGet K C_FromPoints Str.empty = true)
    (gH_FromPoints : PySem.W.hasDictIn K C_FromPoints = true)
    (gO_FromPoints : PySem.W.plainOver K C_FromPoints = true)
    (gS_FromPoints : PySem.W.findIn K (.ref C_FromPoints) "__setattr__" = some (some (.builtin "object.__setattr__")))
    (gK_FromPoints : PySem.W.keepIn K (.ref C_FromPoints) = true)
    {C_Late : Addr}
    (gC_Late : PySem.W.nsIn K mainGlobals "Late" = some (some (.ref C_Late)))
    (gP_Late : PySem.W.plainGet K C_Late Str.empty = true)
    (gH_Late : PySem.W.hasDictIn K C_Late = true)
    (gO_Late : PySem.W.plainOver K C_Late = true)
    (gS_Late : PySem.W.findIn K (.ref C_Late) "__setattr__" = some (some (.builtin "object.__setattr__")))
    (gK_Late : PySem.W.keepIn K (.ref C_Late) = true)
    {C_Either : Addr}
    (gC_Either : PySem.W.nsIn K mainGlobals "Either" = some (some (.ref C_Either)))
    (gP_Either : PySem.W.plainGet K C_Either Str.empty = true)
    (gH_Either : PySem.W.hasDictIn K C_Either = true)
    (gO_Either : PySem.W.plainOver K C_Either = true)
    (gS_Either : PySem.W.findIn K (.ref C_Either) "__setattr__" = some (some (.builtin "object.__setattr__")))
    (gK_Either : PySem.W.keepIn K (.ref C_Either) = true)
    {C_Lagging : Addr}
    (gC_Lagging : PySem.W.nsIn K mainGlobals "Lagging" = some (some (.ref C_Lagging)))
    (gP_Lagging : PySem.W.plainGet K C_Lagging Str.empty = true)
    (gH_Lagging : PySem.W.hasDictIn K C_Lagging = true)
    (gO_Lagging : PySem.W.plainOver K C_Lagging = true)
    (gS_Lagging : PySem.W.findIn K (.ref C_Lagging) "__setattr__" = some (some (.builtin "object.__setattr__")))
    (gK_Lagging : PySem.W.keepIn K (.ref C_Lagging) = true)
    {C_Workers : Addr}
    (gC_Workers : PySem.W.nsIn K mainGlobals "Workers" = some (some (.ref C_Workers)))
    (gP_Workers : PySem.W.plainGet K C_Workers Str.empty = true)
    (gH_Workers : PySem.W.hasDictIn K C_Workers = true)
    (gO_Workers : PySem.W.plainOver K C_Workers = true)
    (gS_Workers : PySem.W.findIn K (.ref C_Workers) "__setattr__" = some (some (.builtin "object.__setattr__")))
    (gK_Workers : PySem.W.keepIn K (.ref C_Workers) = true)
    (gM0_Rule : PySem.W.makesIn K C_Rule = true)
    (gI0_Rule : PySem.W.findIn K (.ref C_Rule) "__init__" = some (some (.builtin "object.__init__")))
    (gM0_FromTop : PySem.W.makesIn K C_FromTop = true)
    (gI0_FromTop : PySem.W.findIn K (.ref C_FromTop) "__init__" = some (some (.builtin "object.__init__")))
    (gM0_FromMark : PySem.W.makesIn K C_FromMark = true)
    (gI0_FromMark : PySem.W.findIn K (.ref C_FromMark) "__init__" = some (some (.builtin "object.__init__")))
    (iA_Rule : PySem.W.findIn K (.ref C_Rule) "__class__" = some (some (.builtin "object.__class__")))
    (iN_Rule : PySem.W.specialIn K (.builtin "object.__class__") "__get__" = some (some (.builtin "getset_descriptor.__get__")))
    (iT_Rule : PySem.W.takesIn K (.builtin "object.__class__") = some true)
    (iM_Rule : PySem.W.mroIn K C_Rule (.type "object") = some true)
    (iA_FromTop : PySem.W.findIn K (.ref C_FromTop) "__class__" = some (some (.builtin "object.__class__")))
    (iN_FromTop : PySem.W.specialIn K (.builtin "object.__class__") "__get__" = some (some (.builtin "getset_descriptor.__get__")))
    (iT_FromTop : PySem.W.takesIn K (.builtin "object.__class__") = some true)
    (iM_FromTop : PySem.W.mroIn K C_FromTop (.type "object") = some true)
    (iA_FromMark : PySem.W.findIn K (.ref C_FromMark) "__class__" = some (some (.builtin "object.__class__")))
    (iN_FromMark : PySem.W.specialIn K (.builtin "object.__class__") "__get__" = some (some (.builtin "getset_descriptor.__get__")))
    (iT_FromMark : PySem.W.takesIn K (.builtin "object.__class__") = some true)
    (iM_FromMark : PySem.W.mroIn K C_FromMark (.type "object") = some true)
    (iA_FromPoints : PySem.W.findIn K (.ref C_FromPoints) "__class__" = some (some (.builtin "object.__class__")))
    (iN_FromPoints : PySem.W.specialIn K (.builtin "object.__class__") "__get__" = some (some (.builtin "getset_descriptor.__get__")))
    (iT_FromPoints : PySem.W.takesIn K (.builtin "object.__class__") = some true)
    (iM_FromPoints : PySem.W.mroIn K C_FromPoints (.type "object") = some true)
    (iA_Late : PySem.W.findIn K (.ref C_Late) "__class__" = some (some (.builtin "object.__class__")))
    (iN_Late : PySem.W.specialIn K (.builtin "object.__class__") "__get__" = some (some (.builtin "getset_descriptor.__get__")))
    (iT_Late : PySem.W.takesIn K (.builtin "object.__class__") = some true)
    (iM_Late : PySem.W.mroIn K C_Late (.type "object") = some true)
    (jI_Rule : PySem.W.isClsIn K C_Rule = true)
    (jT_Rule : PySem.W.typeIn K (.ref C_Rule) = some (.type "type"))
    (jS_Rule : PySem.W.subIn K (.ref C_Rule) (.ref C_Rule) = some true)
    (jI_FromTop : PySem.W.isClsIn K C_FromTop = true)
    (jT_FromTop : PySem.W.typeIn K (.ref C_FromTop) = some (.type "type"))
    (jS_FromTop : PySem.W.subIn K (.ref C_FromTop) (.ref C_FromTop) = some true)
    (jK_FromTop_Rule : PySem.W.subIn K (.ref C_FromTop) (.ref C_Rule) = some true)
    (jI_FromMark : PySem.W.isClsIn K C_FromMark = true)
    (jT_FromMark : PySem.W.typeIn K (.ref C_FromMark) = some (.type "type"))
    (jS_FromMark : PySem.W.subIn K (.ref C_FromMark) (.ref C_FromMark) = some true)
    (jK_FromMark_Rule : PySem.W.subIn K (.ref C_FromMark) (.ref C_Rule) = some true)
    (jI_FromPoints : PySem.W.isClsIn K C_FromPoints = true)
    (jT_FromPoints : PySem.W.typeIn K (.ref C_FromPoints) = some (.type "type"))
    (jS_FromPoints : PySem.W.subIn K (.ref C_FromPoints) (.ref C_FromPoints) = some true)
    (jK_FromPoints_Rule : PySem.W.subIn K (.ref C_FromPoints) (.ref C_Rule) = some true)
    (jI_Late : PySem.W.isClsIn K C_Late = true)
    (jT_Late : PySem.W.typeIn K (.ref C_Late) = some (.type "type"))
    (jS_Late : PySem.W.subIn K (.ref C_Late) (.ref C_Late) = some true)
    (jK_Late_Rule : PySem.W.subIn K (.ref C_Late) (.ref C_Rule) = some true)
    (jI_Either : PySem.W.isClsIn K C_Either = true)
    (jT_Either : PySem.W.typeIn K (.ref C_Either) = some (.type "type"))
    (jS_Either : PySem.W.subIn K (.ref C_Either) (.ref C_Either) = some true)
    (jK_Rule_Either : PySem.W.subIn K (.ref C_Rule) (.ref C_Either) = some false)
    (jK_FromTop_Either : PySem.W.subIn K (.ref C_FromTop) (.ref C_Either) = some false)
    (jK_FromMark_Either : PySem.W.subIn K (.ref C_FromMark) (.ref C_Either) = some false)
    (jK_FromPoints_Either : PySem.W.subIn K (.ref C_FromPoints) (.ref C_Either) = some false)
    (jK_Late_Either : PySem.W.subIn K (.ref C_Late) (.ref C_Either) = some false)
    (gN_FromPoints_points : PySem.W.findIn K (.ref C_FromPoints) "points" = some none)
    (gN_FromPoints_newest : PySem.W.findIn K (.ref C_FromPoints) "newest" = some none)
    (gN_Late_lines : PySem.W.findIn K (.ref C_Late) "lines" = some none)
    (gN_Either_parts : PySem.W.findIn K (.ref C_Either) "parts" = some none)
    (gN_Lagging_age : PySem.W.findIn K (.ref C_Lagging) "age" = some none)
    (gN_Workers_count : PySem.W.findIn K (.ref C_Workers) "count" = some none)
    {tc0 : Tok}
    (gV_FromTop_RESTART : PySem.W.findIn K (.ref C_FromTop) "RESTART" = some (some (.int (-1) tc0)))
    (gG_FromTop_RESTART : PySem.W.specialIn K (.int (-1) tc0) "__get__" = some none)
    {tc1 : Tok}
    (gV_FromMark_RESTART : PySem.W.findIn K (.ref C_FromMark) "RESTART" = some (some (.int (-1) tc1)))
    (gG_FromMark_RESTART : PySem.W.specialIn K (.int (-1) tc1) "__get__" = some none)
    {tc2 : Tok}
    (gV_FromPoints_RESTART : PySem.W.findIn K (.ref C_FromPoints) "RESTART" = some (some (.int (-1) tc2)))
    (gG_FromPoints_RESTART : PySem.W.specialIn K (.int (-1) tc2) "__get__" = some none)
    {tc3 : Tok}
    (gV_Lagging_RESTART : PySem.W.findIn K (.ref C_Lagging) "RESTART" = some (some (.int (-1) tc3)))
    (gG_Lagging_RESTART : PySem.W.specialIn K (.int (-1) tc3) "__get__" = some none)
    (gV_Rule_SIMPLE : PySem.W.findIn K (.ref C_Rule) "SIMPLE" = some (some (.bool true)))
    (gG_Rule_SIMPLE : PySem.W.specialIn K (.bool true) "__get__" = some none)
    (gV_FromTop_SIMPLE : PySem.W.findIn K (.ref C_FromTop) "SIMPLE" = some (some (.bool true)))
    (gG_FromTop_SIMPLE : PySem.W.specialIn K (.bool true) "__get__" = some none)
    (gV_FromMark_SIMPLE : PySem.W.findIn K (.ref C_FromMark) "SIMPLE" = some (some (.bool true)))
    (gG_FromMark_SIMPLE : PySem.W.specialIn K (.bool true) "__get__" = some none)
    (gV_FromPoints_SIMPLE : PySem.W.findIn K (.ref C_FromPoints) "SIMPLE" = some (some (.bool true)))
    (gG_FromPoints_SIMPLE : PySem.W.specialIn K (.bool true) "__get__" = some none)
    (gV_Late_SIMPLE : PySem.W.findIn K (.ref C_Late) "SIMPLE" = some (some (.bool true)))
    (gG_Late_SIMPLE : PySem.W.specialIn K (.bool true) "__get__" = some none)
    {tc9 : Tok}
    (gV_Workers_RESTART : PySem.W.findIn K (.ref C_Workers) "RESTART" = some (some (.int (-1) tc9)))
    (gG_Workers_RESTART : PySem.W.specialIn K (.int (-1) tc9) "__get__" = some none)
    {tv0 : Tok}
    (gR_Rule_RESTART : PySem.W.readsIn K C_Rule (.type "type") = true)
    (gA_Rule_RESTART : PySem.W.specialIn K (.ref C_Rule) "__getattribute__" = some (some (.builtin "type.__getattribute__")))
    (gW_Rule_RESTART : PySem.W.findCls K (.ref C_Rule) (.type "type") "RESTART" = some (.val (.int (-1) tv0)))
    {f_Rule_first_state : Addr} {od_Rule_first_state an_Rule_first_state : Option Addr} {sl_Rule_first_state : Array (Option Value)} {oc_Rule_first_state kV_Rule_first_state dc_Rule_first_state pm_Rule_first_state cd_Rule_first_state ct_Rule_first_state : Value}
    (mF_Rule_first_state : PySem.W.findIn K (.ref C_Rule) "first_state" = some (some (.ref f_Rule_first_state)))
    (mI_Rule_first_state : PySem.W.isFn K (.ref f_Rule_first_state) = true)
    (mL_Rule_first_state : K.lookup f_Rule_first_state = some ⟨oc_Rule_first_state, od_Rule_first_state, .func (PySem.W.fnOf "first_state" "Rule.first_state" (defArgs sRule_first_state) (defBody sRule_first_state) (defScope sRule_first_state) .none kV_Rule_first_state dc_Rule_first_state pm_Rule_first_state an_Rule_first_state cd_Rule_first_state ct_Rule_first_state), sl_Rule_first_state⟩)
    (mC_Rule_first_state : PySem.W.codeIn K cd_Rule_first_state "Rule.first_state" = true)
    (mK_Rule_first_state : PySem.W.keepIn K (.ref f_Rule_first_state) = true)
    {f_Rule_steps : Addr} {od_Rule_steps an_Rule_steps : Option Addr} {sl_Rule_steps : Array (Option Value)} {oc_Rule_steps kV_Rule_steps dc_Rule_steps pm_Rule_steps cd_Rule_steps ct_Rule_steps : Value}
    (mF_Rule_steps : PySem.W.findIn K (.ref C_Rule) "steps" = some (some (.ref f_Rule_steps)))
    (mI_Rule_steps : PySem.W.isFn K (.ref f_Rule_steps) = true)
    (mL_Rule_steps : K.lookup f_Rule_steps = some ⟨oc_Rule_steps, od_Rule_steps, .func (PySem.W.fnOf "steps" "Rule.steps" (defArgs sRule_steps) (defBody sRule_steps) (defScope sRule_steps) .none kV_Rule_steps dc_Rule_steps pm_Rule_steps an_Rule_steps cd_Rule_steps ct_Rule_steps), sl_Rule_steps⟩)
    (mC_Rule_steps : PySem.W.codeIn K cd_Rule_steps "Rule.steps" = true)
    (mK_Rule_steps : PySem.W.keepIn K (.ref f_Rule_steps) = true)
    {f_Rule_is_end : Addr} {od_Rule_is_end an_Rule_is_end : Option Addr} {sl_Rule_is_end : Array (Option Value)} {oc_Rule_is_end kV_Rule_is_end dc_Rule_is_end pm_Rule_is_end cd_Rule_is_end ct_Rule_is_end : Value}
    (mF_Rule_is_end : PySem.W.findIn K (.ref C_Rule) "is_end" = some (some (.ref f_Rule_is_end)))
    (mI_Rule_is_end : PySem.W.isFn K (.ref f_Rule_is_end) = true)
    (mL_Rule_is_end : K.lookup f_Rule_is_end = some ⟨oc_Rule_is_end, od_Rule_is_end, .func (PySem.W.fnOf "is_end" "Rule.is_end" (defArgs sRule_is_end) (defBody sRule_is_end) (defScope sRule_is_end) .none kV_Rule_is_end dc_Rule_is_end pm_Rule_is_end an_Rule_is_end cd_Rule_is_end ct_Rule_is_end), sl_Rule_is_end⟩)
    (mC_Rule_is_end : PySem.W.codeIn K cd_Rule_is_end "Rule.is_end" = true)
    (mK_Rule_is_end : PySem.W.keepIn K (.ref f_Rule_is_end) = true)
    {f_Rule_further : Addr} {od_Rule_further an_Rule_further : Option Addr} {sl_Rule_further : Array (Option Value)} {oc_Rule_further kV_Rule_further dc_Rule_further pm_Rule_further cd_Rule_further ct_Rule_further : Value}
    (mF_Rule_further : PySem.W.findIn K (.ref C_Rule) "further" = some (some (.ref f_Rule_further)))
    (mI_Rule_further : PySem.W.isFn K (.ref f_Rule_further) = true)
    (mL_Rule_further : K.lookup f_Rule_further = some ⟨oc_Rule_further, od_Rule_further, .func (PySem.W.fnOf "further" "Rule.further" (defArgs sRule_further) (defBody sRule_further) (defScope sRule_further) .none kV_Rule_further dc_Rule_further pm_Rule_further an_Rule_further cd_Rule_further ct_Rule_further), sl_Rule_further⟩)
    (mC_Rule_further : PySem.W.codeIn K cd_Rule_further "Rule.further" = true)
    (mK_Rule_further : PySem.W.keepIn K (.ref f_Rule_further) = true)
    {f_FromTop_steps : Addr} {od_FromTop_steps an_FromTop_steps : Option Addr} {sl_FromTop_steps : Array (Option Value)} {oc_FromTop_steps kV_FromTop_steps dc_FromTop_steps pm_FromTop_steps cd_FromTop_steps ct_FromTop_steps : Value}
    (mF_FromTop_steps : PySem.W.findIn K (.ref C_FromTop) "steps" = some (some (.ref f_FromTop_steps)))
    (mI_FromTop_steps : PySem.W.isFn K (.ref f_FromTop_steps) = true)
    (mL_FromTop_steps : K.lookup f_FromTop_steps = some ⟨oc_FromTop_steps, od_FromTop_steps, .func (PySem.W.fnOf "steps" "FromTop.steps" (defArgs sFromTop_steps) (defBody sFromTop_steps) (defScope sFromTop_steps) .none kV_FromTop_steps dc_FromTop_steps pm_FromTop_steps an_FromTop_steps cd_FromTop_steps ct_FromTop_steps), sl_FromTop_steps⟩)
    (mC_FromTop_steps : PySem.W.codeIn K cd_FromTop_steps "FromTop.steps" = true)
    (mK_FromTop_steps : PySem.W.keepIn K (.ref f_FromTop_steps) = true)
    {f_FromTop_further : Addr} {od_FromTop_further an_FromTop_further : Option Addr} {sl_FromTop_further : Array (Option Value)} {oc_FromTop_further kV_FromTop_further dc_FromTop_further pm_FromTop_further cd_FromTop_further ct_FromTop_further : Value}
    (mF_FromTop_further : PySem.W.findIn K (.ref C_FromTop) "further" = some (some (.ref f_FromTop_further)))
    (mI_FromTop_further : PySem.W.isFn K (.ref f_FromTop_further) = true)
    (mL_FromTop_further : K.lookup f_FromTop_further = some ⟨oc_FromTop_further, od_FromTop_further, .func (PySem.W.fnOf "further" "FromTop.further" (defArgs sFromTop_further) (defBody sFromTop_further) (defScope sFromTop_further) .none kV_FromTop_further dc_FromTop_further pm_FromTop_further an_FromTop_further cd_FromTop_further ct_FromTop_further), sl_FromTop_further⟩)
    (mC_FromTop_further : PySem.W.codeIn K cd_FromTop_further "FromTop.further" = true)
    (mK_FromTop_further : PySem.W.keepIn K (.ref f_FromTop_further) = true)
    {f_FromMark_steps : Addr} {od_FromMark_steps an_FromMark_steps : Option Addr} {sl_FromMark_steps : Array (Option Value)} {oc_FromMark_steps kV_FromMark_steps dc_FromMark_steps pm_FromMark_steps cd_FromMark_steps ct_FromMark_steps : Value}
    (mF_FromMark_steps : PySem.W.findIn K (.ref C_FromMark) "steps" = some (some (.ref f_FromMark_steps)))
    (mI_FromMark_steps : PySem.W.isFn K (.ref f_FromMark_steps) = true)
    (mL_FromMark_steps : K.lookup f_FromMark_steps = some ⟨oc_FromMark_steps, od_FromMark_steps, .func (PySem.W.fnOf "steps" "FromMark.steps" (defArgs sFromMark_steps) (defBody sFromMark_steps) (defScope sFromMark_steps) .none kV_FromMark_steps dc_FromMark_steps pm_FromMark_steps an_FromMark_steps cd_FromMark_steps ct_FromMark_steps), sl_FromMark_steps⟩)
    (mC_FromMark_steps : PySem.W.codeIn K cd_FromMark_steps "FromMark.steps" = true)
    (mK_FromMark_steps : PySem.W.keepIn K (.ref f_FromMark_steps) = true)
    {f_FromMark_further : Addr} {od_FromMark_further an_FromMark_further : Option Addr} {sl_FromMark_further : Array (Option Value)} {oc_FromMark_further kV_FromMark_further dc_FromMark_further pm_FromMark_further cd_FromMark_further ct_FromMark_further : Value}
    (mF_FromMark_further : PySem.W.findIn K (.ref C_FromMark) "further" = some (some (.ref f_FromMark_further)))
    (mI_FromMark_further : PySem.W.isFn K (.ref f_FromMark_further) = true)
    (mL_FromMark_further : K.lookup f_FromMark_further = some ⟨oc_FromMark_further, od_FromMark_further, .func (PySem.W.fnOf "further" "FromMark.further" (defArgs sFromMark_further) (defBody sFromMark_further) (defScope sFromMark_further) .none kV_FromMark_further dc_FromMark_further pm_FromMark_further an_FromMark_further cd_FromMark_further ct_FromMark_further), sl_FromMark_further⟩)
    (mC_FromMark_further : PySem.W.codeIn K cd_FromMark_further "FromMark.further" = true)
    (mK_FromMark_further : PySem.W.keepIn K (.ref f_FromMark_further) = true)
    {f_FromPointsu_initu : Addr} {od_FromPointsu_initu an_FromPointsu_initu : Option Addr} {sl_FromPointsu_initu : Array (Option Value)} {oc_FromPointsu_initu dc_FromPointsu_initu pm_FromPointsu_initu cd_FromPointsu_initu ct_FromPointsu_initu : Value}
    (mF_FromPointsu_initu : PySem.W.findIn K (.ref C_FromPoints) "__init__" = some (some (.ref f_FromPointsu_initu)))
    (mI_FromPointsu_initu : PySem.W.isFn K (.ref f_FromPointsu_initu) = true)
    {kD_FromPointsu_initu : Addr}
    (mL_FromPointsu_initu : K.lookup f_FromPointsu_initu = some ⟨oc_FromPointsu_initu, od_FromPointsu_initu, .func (PySem.W.fnOf "__init__" "FromPoints.__init__" (defArgs sFromPointsu_initu) (defBody sFromPointsu_initu) (defScope sFromPointsu_initu) .none (.ref kD_FromPointsu_initu) dc_FromPointsu_initu pm_FromPointsu_initu an_FromPointsu_initu cd_FromPointsu_initu ct_FromPointsu_initu), sl_FromPointsu_initu⟩)
    (mC_FromPointsu_initu : PySem.W.codeIn K cd_FromPointsu_initu "FromPoints.__init__" = true)
    (mK_FromPointsu_initu : PySem.W.keepIn K (.ref f_FromPointsu_initu) = true)
    (mM_FromPointsu_initu : PySem.W.makesIn K C_FromPoints = true)
    (kQ_FromPointsu_initu : PySem.W.nsIn K kD_FromPointsu_initu "newest" = some (some (.bool true)))
    {f_FromPoints_steps : Addr} {od_FromPoints_steps an_FromPoints_steps : Option Addr} {sl_FromPoints_steps : Array (Option Value)} {oc_FromPoints_steps kV_FromPoints_steps dc_FromPoints_steps pm_FromPoints_steps cd_FromPoints_steps ct_FromPoints_steps : Value}
    (mF_FromPoints_steps : PySem.W.findIn K (.ref C_FromPoints) "steps" = some (some (.ref f_FromPoints_steps)))
    (mI_FromPoints_steps : PySem.W.isFn K (.ref f_FromPoints_steps) = true)
    (mL_FromPoints_steps : K.lookup f_FromPoints_steps = some ⟨oc_FromPoints_steps, od_FromPoints_steps, .func (PySem.W.fnOf "steps" "FromPoints.steps" (defArgs sFromPoints_steps) (defBody sFromPoints_steps) (defScope sFromPoints_steps) .none kV_FromPoints_steps dc_FromPoints_steps pm_FromPoints_steps an_FromPoints_steps cd_FromPoints_steps ct_FromPoints_steps), sl_FromPoints_steps⟩)
    (mC_FromPoints_steps : PySem.W.codeIn K cd_FromPoints_steps "FromPoints.steps" = true)
    (mK_FromPoints_steps : PySem.W.keepIn K (.ref f_FromPoints_steps) = true)
    {f_FromPoints_further : Addr} {od_FromPoints_further an_FromPoints_further : Option Addr} {sl_FromPoints_further : Array (Option Value)} {oc_FromPoints_further kV_FromPoints_further dc_FromPoints_further pm_FromPoints_further cd_FromPoints_further ct_FromPoints_further : Value}
    (mF_FromPoints_further : PySem.W.findIn K (.ref C_FromPoints) "further" = some (some (.ref f_FromPoints_further)))
    (mI_FromPoints_further : PySem.W.isFn K (.ref f_FromPoints_further) = true)
    (mL_FromPoints_further : K.lookup f_FromPoints_further = some ⟨oc_FromPoints_further, od_FromPoints_further, .func (PySem.W.fnOf "further" "FromPoints.further" (defArgs sFromPoints_further) (defBody sFromPoints_further) (defScope sFromPoints_further) .none kV_FromPoints_further dc_FromPoints_further pm_FromPoints_further an_FromPoints_further cd_FromPoints_further ct_FromPoints_further), sl_FromPoints_further⟩)
    (mC_FromPoints_further : PySem.W.codeIn K cd_FromPoints_further "FromPoints.further" = true)
    (mK_FromPoints_further : PySem.W.keepIn K (.ref f_FromPoints_further) = true)
    {f_Lateu_initu : Addr} {od_Lateu_initu an_Lateu_initu : Option Addr} {sl_Lateu_initu : Array (Option Value)} {oc_Lateu_initu kV_Lateu_initu dc_Lateu_initu pm_Lateu_initu cd_Lateu_initu ct_Lateu_initu : Value}
    (mF_Lateu_initu : PySem.W.findIn K (.ref C_Late) "__init__" = some (some (.ref f_Lateu_initu)))
    (mI_Lateu_initu : PySem.W.isFn K (.ref f_Lateu_initu) = true)
    {dT_Lateu_initu : Addr} {dO_Lateu_initu : Obj} {dN_Lateu_initu : Nat}
    (mL_Lateu_initu : K.lookup f_Lateu_initu = some ⟨oc_Lateu_initu, od_Lateu_initu, .func (PySem.W.fnOf "__init__" "Late.__init__" (defArgs sLateu_initu) (defBody sLateu_initu) (defScope sLateu_initu) (.ref dT_Lateu_initu) kV_Lateu_initu dc_Lateu_initu pm_Lateu_initu an_Lateu_initu cd_Lateu_initu ct_Lateu_initu), sl_Lateu_initu⟩)
    (mC_Lateu_initu : PySem.W.codeIn K cd_Lateu_initu "Late.__init__" = true)
    (mK_Lateu_initu : PySem.W.keepIn K (.ref f_Lateu_initu) = true)
    (mM_Lateu_initu : PySem.W.makesIn K C_Late = true)
    (tD_Lateu_initu : K.lookup dT_Lateu_initu = some dO_Lateu_initu)
    (uD_Lateu_initu : dO_Lateu_initu.data = .seq #[.none] dN_Lateu_initu)
    {f_Late_steps : Addr} {od_Late_steps an_Late_steps : Option Addr} {sl_Late_steps : Array (Option Value)} {oc_Late_steps kV_Late_steps dc_Late_steps pm_Late_steps cd_Late_steps ct_Late_steps : Value}
    (mF_Late_steps : PySem.W.findIn K (.ref C_Late) "steps" = some (some (.ref f_Late_steps)))
    (mI_Late_steps : PySem.W.isFn K (.ref f_Late_steps) = true)
    (mL_Late_steps : K.lookup f_Late_steps = some ⟨oc_Late_steps, od_Late_steps, .func (PySem.W.fnOf "steps" "Late.steps" (defArgs sLate_steps) (defBody sLate_steps) (defScope sLate_steps) .none kV_Late_steps dc_Late_steps pm_Late_steps an_Late_steps cd_Late_steps ct_Late_steps), sl_Late_steps⟩)
    (mC_Late_steps : PySem.W.codeIn K cd_Late_steps "Late.steps" = true)
    (mK_Late_steps : PySem.W.keepIn K (.ref f_Late_steps) = true)
    {f_Late_further : Addr} {od_Late_further an_Late_further : Option Addr} {sl_Late_further : Array (Option Value)} {oc_Late_further kV_Late_further dc_Late_further pm_Late_further cd_Late_further ct_Late_further : Value}
    (mF_Late_further : PySem.W.findIn K (.ref C_Late) "further" = some (some (.ref f_Late_further)))
    (mI_Late_further : PySem.W.isFn K (.ref f_Late_further) = true)
    (mL_Late_further : K.lookup f_Late_further = some ⟨oc_Late_further, od_Late_further, .func (PySem.W.fnOf "further" "Late.further" (defArgs sLate_further) (defBody sLate_further) (defScope sLate_further) .none kV_Late_further dc_Late_further pm_Late_further an_Late_further cd_Late_further ct_Late_further), sl_Late_further⟩)
    (mC_Late_further : PySem.W.codeIn K cd_Late_further "Late.further" = true)
    (mK_Late_further : PySem.W.keepIn K (.ref f_Late_further) = true)
    {f_Eitheru_initu : Addr} {od_Eitheru_initu an_Eitheru_initu : Option Addr} {sl_Eitheru_initu : Array (Option Value)} {oc_Eitheru_initu kV_Eitheru_initu dc_Eitheru_initu pm_Eitheru_initu cd_Eitheru_initu ct_Eitheru_initu : Value}
    (mF_Eitheru_initu : PySem.W.findIn K (.ref C_Either) "__init__" = some (some (.ref f_Eitheru_initu)))
    (mI_Eitheru_initu : PySem.W.isFn K (.ref f_Eitheru_initu) = true)
    (mL_Eitheru_initu : K.lookup f_Eitheru_initu = some ⟨oc_Eitheru_initu, od_Eitheru_initu, .func (PySem.W.fnOf "__init__" "Either.__init__" (defArgs sEitheru_initu) (defBody sEitheru_initu) (defScope sEitheru_initu) .none kV_Eitheru_initu dc_Eitheru_initu pm_Eitheru_initu an_Eitheru_initu cd_Eitheru_initu ct_Eitheru_initu), sl_Eitheru_initu⟩)
    (mC_Eitheru_initu : PySem.W.codeIn K cd_Eitheru_initu "Either.__init__" = true)
    (mK_Eitheru_initu : PySem.W.keepIn K (.ref f_Eitheru_initu) = true)
    (mM_Eitheru_initu : PySem.W.makesIn K C_Either = true)
    {f_Either_steps : Addr} {od_Either_steps an_Either_steps : Option Addr} {sl_Either_steps : Array (Option Value)} {oc_Either_steps kV_Either_steps dc_Either_steps pm_Either_steps cd_Either_steps ct_Either_steps : Value}
    (mF_Either_steps : PySem.W.findIn K (.ref C_Either) "steps" = some (some (.ref f_Either_steps)))
    (mI_Either_steps : PySem.W.isFn K (.ref f_Either_steps) = true)
    (mL_Either_steps : K.lookup f_Either_steps = some ⟨oc_Either_steps, od_Either_steps, .func (PySem.W.fnOf "steps" "Either.steps" (defArgs sEither_steps) (defBody sEither_steps) (defScope sEither_steps) .none kV_Either_steps dc_Either_steps pm_Either_steps an_Either_steps cd_Either_steps ct_Either_steps), sl_Either_steps⟩)
    (mC_Either_steps : PySem.W.codeIn K cd_Either_steps "Either.steps" = true)
    (mK_Either_steps : PySem.W.keepIn K (.ref f_Either_steps) = true)
    {f_Either_further : Addr} {od_Either_further an_Either_further : Option Addr} {sl_Either_further : Array (Option Value)} {oc_Either_further kV_Either_further dc_Either_further pm_Either_further cd_Either_further ct_Either_further : Value}
    (mF_Either_further : PySem.W.findIn K (.ref C_Either) "further" = some (some (.ref f_Either_further)))
    (mI_Either_further : PySem.W.isFn K (.ref f_Either_further) = true)
    (mL_Either_further : K.lookup f_Either_further = some ⟨oc_Either_further, od_Either_further, .func (PySem.W.fnOf "further" "Either.further" (defArgs sEither_further) (defBody sEither_further) (defScope sEither_further) .none kV_Either_further dc_Either_further pm_Either_further an_Either_further cd_Either_further ct_Either_further), sl_Either_further⟩)
    (mC_Either_further : PySem.W.codeIn K cd_Either_further "Either.further" = true)
    (mK_Either_further : PySem.W.keepIn K (.ref f_Either_further) = true)
    {f_Laggingu_initu : Addr} {od_Laggingu_initu an_Laggingu_initu : Option Addr} {sl_Laggingu_initu : Array (Option Value)} {oc_Laggingu_initu kV_Laggingu_initu dc_Laggingu_initu pm_Laggingu_initu cd_Laggingu_initu ct_Laggingu_initu : Value}
    (mF_Laggingu_initu : PySem.W.findIn K (.ref C_Lagging) "__init__" = some (some (.ref f_Laggingu_initu)))
    (mI_Laggingu_initu : PySem.W.isFn K (.ref f_Laggingu_initu) = true)
    (mL_Laggingu_initu : K.lookup f_Laggingu_initu = some ⟨oc_Laggingu_initu, od_Laggingu_initu, .func (PySem.W.fnOf "__init__" "Lagging.__init__" (defArgs sLaggingu_initu) (defBody sLaggingu_initu) (defScope sLaggingu_initu) .none kV_Laggingu_initu dc_Laggingu_initu pm_Laggingu_initu an_Laggingu_initu cd_Laggingu_initu ct_Laggingu_initu), sl_Laggingu_initu⟩)
    (mC_Laggingu_initu : PySem.W.codeIn K cd_Laggingu_initu "Lagging.__init__" = true)
    (mK_Laggingu_initu : PySem.W.keepIn K (.ref f_Laggingu_initu) = true)
    (mM_Laggingu_initu : PySem.W.makesIn K C_Lagging = true)
    {f_Lagging_first_state : Addr} {od_Lagging_first_state an_Lagging_first_state : Option Addr} {sl_Lagging_first_state : Array (Option Value)} {oc_Lagging_first_state kV_Lagging_first_state dc_Lagging_first_state pm_Lagging_first_state cd_Lagging_first_state ct_Lagging_first_state : Value}
    (mF_Lagging_first_state : PySem.W.findIn K (.ref C_Lagging) "first_state" = some (some (.ref f_Lagging_first_state)))
    (mI_Lagging_first_state : PySem.W.isFn K (.ref f_Lagging_first_state) = true)
    (mL_Lagging_first_state : K.lookup f_Lagging_first_state = some ⟨oc_Lagging_first_state, od_Lagging_first_state, .func (PySem.W.fnOf "first_state" "Lagging.first_state" (defArgs sLagging_first_state) (defBody sLagging_first_state) (defScope sLagging_first_state) .none kV_Lagging_first_state dc_Lagging_first_state pm_Lagging_first_state an_Lagging_first_state cd_Lagging_first_state ct_Lagging_first_state), sl_Lagging_first_state⟩)
    (mC_Lagging_first_state : PySem.W.codeIn K cd_Lagging_first_state "Lagging.first_state" = true)
    (mK_Lagging_first_state : PySem.W.keepIn K (.ref f_Lagging_first_state) = true)
    {f_Lagging_steps : Addr} {od_Lagging_steps an_Lagging_steps : Option Addr} {sl_Lagging_steps : Array (Option Value)} {oc_Lagging_steps kV_Lagging_steps dc_Lagging_steps pm_Lagging_steps cd_Lagging_steps ct_Lagging_steps : Value}
    (mF_Lagging_steps : PySem.W.findIn K (.ref C_Lagging) "steps" = some (some (.ref f_Lagging_steps)))
    (mI_Lagging_steps : PySem.W.isFn K (.ref f_Lagging_steps) = true)
    (mL_Lagging_steps : K.lookup f_Lagging_steps = some ⟨oc_Lagging_steps, od_Lagging_steps, .func (PySem.W.fnOf "steps" "Lagging.steps" (defArgs sLagging_steps) (defBody sLagging_steps) (defScope sLagging_steps) .none kV_Lagging_steps dc_Lagging_steps pm_Lagging_steps an_Lagging_steps cd_Lagging_steps ct_Lagging_steps), sl_Lagging_steps⟩)
    (mC_Lagging_steps : PySem.W.codeIn K cd_Lagging_steps "Lagging.steps" = true)
    (mK_Lagging_steps : PySem.W.keepIn K (.ref f_Lagging_steps) = true)
    {f_Lagging_is_end : Addr} {od_Lagging_is_end an_Lagging_is_end : Option Addr} {sl_Lagging_is_end : Array (Option Value)} {oc_Lagging_is_end kV_Lagging_is_end dc_Lagging_is_end pm_Lagging_is_end cd_Lagging_is_end ct_Lagging_is_end : Value}
    (mF_Lagging_is_end : PySem.W.findIn K (.ref C_Lagging) "is_end" = some (some (.ref f_Lagging_is_end)))
    (mI_Lagging_is_end : PySem.W.isFn K (.ref f_Lagging_is_end) = true)
    (mL_Lagging_is_end : K.lookup f_Lagging_is_end = some ⟨oc_Lagging_is_end, od_Lagging_is_end, .func (PySem.W.fnOf "is_end" "Lagging.is_end" (defArgs sLagging_is_end) (defBody sLagging_is_end) (defScope sLagging_is_end) .none kV_Lagging_is_end dc_Lagging_is_end pm_Lagging_is_end an_Lagging_is_end cd_Lagging_is_end ct_Lagging_is_end), sl_Lagging_is_end⟩)
    (mC_Lagging_is_end : PySem.W.codeIn K cd_Lagging_is_end "Lagging.is_end" = true)
    (mK_Lagging_is_end : PySem.W.keepIn K (.ref f_Lagging_is_end) = true)
    {f_FromTop_first_state : Addr} {od_FromTop_first_state an_FromTop_first_state : Option Addr} {sl_FromTop_first_state : Array (Option Value)} {oc_FromTop_first_state kV_FromTop_first_state dc_FromTop_first_state pm_FromTop_first_state cd_FromTop_first_state ct_FromTop_first_state : Value}
    (mF_FromTop_first_state : PySem.W.findIn K (.ref C_FromTop) "first_state" = some (some (.ref f_FromTop_first_state)))
    (mI_FromTop_first_state : PySem.W.isFn K (.ref f_FromTop_first_state) = true)
    (mL_FromTop_first_state : K.lookup f_FromTop_first_state = some ⟨oc_FromTop_first_state, od_FromTop_first_state, .func (PySem.W.fnOf "first_state" "Rule.first_state" (defArgs sRule_first_state) (defBody sRule_first_state) (defScope sRule_first_state) .none kV_FromTop_first_state dc_FromTop_first_state pm_FromTop_first_state an_FromTop_first_state cd_FromTop_first_state ct_FromTop_first_state), sl_FromTop_first_state⟩)
    (mC_FromTop_first_state : PySem.W.codeIn K cd_FromTop_first_state "Rule.first_state" = true)
    (mK_FromTop_first_state : PySem.W.keepIn K (.ref f_FromTop_first_state) = true)
    {f_FromTop_is_end : Addr} {od_FromTop_is_end an_FromTop_is_end : Option Addr} {sl_FromTop_is_end : Array (Option Value)} {oc_FromTop_is_end kV_FromTop_is_end dc_FromTop_is_end pm_FromTop_is_end cd_FromTop_is_end ct_FromTop_is_end : Value}
    (mF_FromTop_is_end : PySem.W.findIn K (.ref C_FromTop) "is_end" = some (some (.ref f_FromTop_is_end)))
    (mI_FromTop_is_end : PySem.W.isFn K (.ref f_FromTop_is_end) = true)
    (mL_FromTop_is_end : K.lookup f_FromTop_is_end = some ⟨oc_FromTop_is_end, od_FromTop_is_end, .func (PySem.W.fnOf "is_end" "Rule.is_end" (defArgs sRule_is_end) (defBody sRule_is_end) (defScope sRule_is_end) .none kV_FromTop_is_end dc_FromTop_is_end pm_FromTop_is_end an_FromTop_is_end cd_FromTop_is_end ct_FromTop_is_end), sl_FromTop_is_end⟩)
    (mC_FromTop_is_end : PySem.W.codeIn K cd_FromTop_is_end "Rule.is_end" = true)
    (mK_FromTop_is_end : PySem.W.keepIn K (.ref f_FromTop_is_end) = true)
    {f_FromMark_first_state : Addr} {od_FromMark_first_state an_FromMark_first_state : Option Addr} {sl_FromMark_first_state : Array (Option Value)} {oc_FromMark_first_state kV_FromMark_first_state dc_FromMark_first_state pm_FromMark_first_state cd_FromMark_first_state ct_FromMark_first_state : Value}
    (mF_FromMark_first_state : PySem.W.findIn K (.ref C_FromMark) "first_state" = some (some (.ref f_FromMark_first_state)))
    (mI_FromMark_first_state : PySem.W.isFn K (.ref f_FromMark_first_state) = true)
    (mL_FromMark_first_state : K.lookup f_FromMark_first_state = some ⟨oc_FromMark_first_state, od_FromMark_first_state, .func (PySem.W.fnOf "first_state" "Rule.first_state" (defArgs sRule_first_state) (defBody sRule_first_state) (defScope sRule_first_state) .none kV_FromMark_first_state dc_FromMark_first_state pm_FromMark_first_state an_FromMark_first_state cd_FromMark_first_state ct_FromMark_first_state), sl_FromMark_first_state⟩)
    (mC_FromMark_first_state : PySem.W.codeIn K cd_FromMark_first_state "Rule.first_state" = true)
    (mK_FromMark_first_state : PySem.W.keepIn K (.ref f_FromMark_first_state) = true)
    {f_FromMark_is_end : Addr} {od_FromMark_is_end an_FromMark_is_end : Option Addr} {sl_FromMark_is_end : Array (Option Value)} {oc_FromMark_is_end kV_FromMark_is_end dc_FromMark_is_end pm_FromMark_is_end cd_FromMark_is_end ct_FromMark_is_end : Value}
    (mF_FromMark_is_end : PySem.W.findIn K (.ref C_FromMark) "is_end" = some (some (.ref f_FromMark_is_end)))
    (mI_FromMark_is_end : PySem.W.isFn K (.ref f_FromMark_is_end) = true)
    (mL_FromMark_is_end : K.lookup f_FromMark_is_end = some ⟨oc_FromMark_is_end, od_FromMark_is_end, .func (PySem.W.fnOf "is_end" "Rule.is_end" (defArgs sRule_is_end) (defBody sRule_is_end) (defScope sRule_is_end) .none kV_FromMark_is_end dc_FromMark_is_end pm_FromMark_is_end an_FromMark_is_end cd_FromMark_is_end ct_FromMark_is_end), sl_FromMark_is_end⟩)
    (mC_FromMark_is_end : PySem.W.codeIn K cd_FromMark_is_end "Rule.is_end" = true)
    (mK_FromMark_is_end : PySem.W.keepIn K (.ref f_FromMark_is_end) = true)
    {f_FromPoints_first_state : Addr} {od_FromPoints_first_state an_FromPoints_first_state : Option Addr} {sl_FromPoints_first_state : Array (Option Value)} {oc_FromPoints_first_state kV_FromPoints_first_state dc_FromPoints_first_state pm_FromPoints_first_state cd_FromPoints_first_state ct_FromPoints_first_state : Value}
    (mF_FromPoints_first_state : PySem.W.findIn K (.ref C_FromPoints) "first_state" = some (some (.ref f_FromPoints_first_state)))
    (mI_FromPoints_first_state : PySem.W.isFn K (.ref f_FromPoints_first_state) = true)
    (mL_FromPoints_first_state : K.lookup f_FromPoints_first_state = some ⟨oc_FromPoints_first_state, od_FromPoints_first_state, .func (PySem.W.fnOf "first_state" "Rule.first_state" (defArgs sRule_first_state) (defBody sRule_first_state) (defScope sRule_first_state) .none kV_FromPoints_first_state dc_FromPoints_first_state pm_FromPoints_first_state an_FromPoints_first_state cd_FromPoints_first_state ct_FromPoints_first_state), sl_FromPoints_first_state⟩)
    (mC_FromPoints_first_state : PySem.W.codeIn K cd_FromPoints_first_state "Rule.first_state" = true)
    (mK_FromPoints_first_state : PySem.W.keepIn K (.ref f_FromPoints_first_state) = true)
    {f_FromPoints_is_end : Addr} {od_FromPoints_is_end an_FromPoints_is_end : Option Addr} {sl_FromPoints_is_end : Array (Option Value)} {oc_FromPoints_is_end kV_FromPoints_is_end dc_FromPoints_is_end pm_FromPoints_is_end cd_FromPoints_is_end ct_FromPoints_is_end : Value}
    (mF_FromPoints_is_end : PySem.W.findIn K (.ref C_FromPoints) "is_end" = some (some (.ref f_FromPoints_is_end)))
    (mI_FromPoints_is_end : PySem.W.isFn K (.ref f_FromPoints_is_end) = true)
    (mL_FromPoints_is_end : K.lookup f_FromPoints_is_end = some ⟨oc_FromPoints_is_end, od_FromPoints_is_end, .func (PySem.W.fnOf "is_end" "Rule.is_end" (defArgs sRule_is_end) (defBody sRule_is_end) (defScope sRule_is_end) .none kV_FromPoints_is_end dc_FromPoints_is_end pm_FromPoints_is_end an_FromPoints_is_end cd_FromPoints_is_end ct_FromPoints_is_end), sl_FromPoints_is_end⟩)
    (mC_FromPoints_is_end : PySem.W.codeIn K cd_FromPoints_is_end "Rule.is_end" = true)
    (mK_FromPoints_is_end : PySem.W.keepIn K (.ref f_FromPoints_is_end) = true)
    {f_Late_first_state : Addr} {od_Late_first_state an_Late_first_state : Option Addr} {sl_Late_first_state : Array (Option Value)} {oc_Late_first_state kV_Late_first_state dc_Late_first_state pm_Late_first_state cd_Late_first_state ct_Late_first_state : Value}
    (mF_Late_first_state : PySem.W.findIn K (.ref C_Late) "first_state" = some (some (.ref f_Late_first_state)))
    (mI_Late_first_state : PySem.W.isFn K (.ref f_Late_first_state) = true)
    (mL_Late_first_state : K.lookup f_Late_first_state = some ⟨oc_Late_first_state, od_Late_first_state, .func (PySem.W.fnOf "first_state" "Rule.first_state" (defArgs sRule_first_state) (defBody sRule_first_state) (defScope sRule_first_state) .none kV_Late_first_state dc_Late_first_state pm_Late_first_state an_Late_first_state cd_Late_first_state ct_Late_first_state), sl_Late_first_state⟩)
    (mC_Late_first_state : PySem.W.codeIn K cd_Late_first_state "Rule.first_state" = true)
    (mK_Late_first_state : PySem.W.keepIn K (.ref f_Late_first_state) = true)
    {f_Late_is_end : Addr} {od_Late_is_end an_Late_is_end : Option Addr} {sl_Late_is_end : Array (Option Value)} {oc_Late_is_end kV_Late_is_end dc_Late_is_end pm_Late_is_end cd_Late_is_end ct_Late_is_end : Value}
    (mF_Late_is_end : PySem.W.findIn K (.ref C_Late) "is_end" = some (some (.ref f_Late_is_end)))
    (mI_Late_is_end : PySem.W.isFn K (.ref f_Late_is_end) = true)
    (mL_Late_is_end : K.lookup f_Late_is_end = some ⟨oc_Late_is_end, od_Late_is_end, .func (PySem.W.fnOf "is_end" "Rule.is_end" (defArgs sRule_is_end) (defBody sRule_is_end) (defScope sRule_is_end) .none kV_Late_is_end dc_Late_is_end pm_Late_is_end an_Late_is_end cd_Late_is_end ct_Late_is_end), sl_Late_is_end⟩)
    (mC_Late_is_end : PySem.W.codeIn K cd_Late_is_end "Rule.is_end" = true)
    (mK_Late_is_end : PySem.W.keepIn K (.ref f_Late_is_end) = true)
    {f_Either_first_state : Addr} {od_Either_first_state an_Either_first_state : Option Addr} {sl_Either_first_state : Array (Option Value)} {oc_Either_first_state kV_Either_first_state dc_Either_first_state pm_Either_first_state cd_Either_first_state ct_Either_first_state : Value}
    (mF_Either_first_state : PySem.W.findIn K (.ref C_Either) "first_state" = some (some (.ref f_Either_first_state)))
    (mI_Either_first_state : PySem.W.isFn K (.ref f_Either_first_state) = true)
    (mL_Either_first_state : K.lookup f_Either_first_state = some ⟨oc_Either_first_state, od_Either_first_state, .func (PySem.W.fnOf "first_state" "Rule.first_state" (defArgs sRule_first_state) (defBody sRule_first_state) (defScope sRule_first_state) .none kV_Either_first_state dc_Either_first_state pm_Either_first_state an_Either_first_state cd_Either_first_state ct_Either_first_state), sl_Either_first_state⟩)
    (mC_Either_first_state : PySem.W.codeIn K cd_Either_first_state "Rule.first_state" = true)
    (mK_Either_first_state : PySem.W.keepIn K (.ref f_Either_first_state) = true)
    {f_Either_is_end : Addr} {od_Either_is_end an_Either_is_end : Option Addr} {sl_Either_is_end : Array (Option Value)} {oc_Either_is_end kV_Either_is_end dc_Either_is_end pm_Either_is_end cd_Either_is_end ct_Either_is_end : Value}
    (mF_Either_is_end : PySem.W.findIn K (.ref C_Either) "is_end" = some (some (.ref f_Either_is_end)))
    (mI_Either_is_end : PySem.W.isFn K (.ref f_Either_is_end) = true)
    (mL_Either_is_end : K.lookup f_Either_is_end = some ⟨oc_Either_is_end, od_Either_is_end, .func (PySem.W.fnOf "is_end" "Rule.is_end" (defArgs sRule_is_end) (defBody sRule_is_end) (defScope sRule_is_end) .none kV_Either_is_end dc_Either_is_end pm_Either_is_end an_Either_is_end cd_Either_is_end ct_Either_is_end), sl_Either_is_end⟩)
    (mC_Either_is_end : PySem.W.codeIn K cd_Either_is_end "Rule.is_end" = true)
    (mK_Either_is_end : PySem.W.keepIn K (.ref f_Either_is_end) = true)
    {f_Workersu_initu : Addr} {od_Workersu_initu an_Workersu_initu : Option Addr} {sl_Workersu_initu : Array (Option Value)} {oc_Workersu_initu kV_Workersu_initu dc_Workersu_initu pm_Workersu_initu cd_Workersu_initu ct_Workersu_initu : Value}
    (mF_Workersu_initu : PySem.W.findIn K (.ref C_Workers) "__init__" = some (some (.ref f_Workersu_initu)))
    (mI_Workersu_initu : PySem.W.isFn K (.ref f_Workersu_initu) = true)
    (mL_Workersu_initu : K.lookup f_Workersu_initu = some ⟨oc_Workersu_initu, od_Workersu_initu, .func (PySem.W.fnOf "__init__" "Workers.__init__" (defArgs sWorkersu_initu) (defBody sWorkersu_initu) (defScope sWorkersu_initu) .none kV_Workersu_initu dc_Workersu_initu pm_Workersu_initu an_Workersu_initu cd_Workersu_initu ct_Workersu_initu), sl_Workersu_initu⟩)
    (mC_Workersu_initu : PySem.W.codeIn K cd_Workersu_initu "Workers.__init__" = true)
    (mK_Workersu_initu : PySem.W.keepIn K (.ref f_Workersu_initu) = true)
    (mM_Workersu_initu : PySem.W.makesIn K C_Workers = true)
    {f_Workers_first_state : Addr} {od_Workers_first_state an_Workers_first_state : Option Addr} {sl_Workers_first_state : Array (Option Value)} {oc_Workers_first_state kV_Workers_first_state dc_Workers_first_state pm_Workers_first_state cd_Workers_first_state ct_Workers_first_state : Value}
    (mF_Workers_first_state : PySem.W.findIn K (.ref C_Workers) "first_state" = some (some (.ref f_Workers_first_state)))
    (mI_Workers_first_state : PySem.W.isFn K (.ref f_Workers_first_state) = true)
    (mL_Workers_first_state : K.lookup f_Workers_first_state = some ⟨oc_Workers_first_state, od_Workers_first_state, .func (PySem.W.fnOf "first_state" "Workers.first_state" (defArgs sWorkers_first_state) (defBody sWorkers_first_state) (defScope sWorkers_first_state) .none kV_Workers_first_state dc_Workers_first_state pm_Workers_first_state an_Workers_first_state cd_Workers_first_state ct_Workers_first_state), sl_Workers_first_state⟩)
    (mC_Workers_first_state : PySem.W.codeIn K cd_Workers_first_state "Workers.first_state" = true)
    (mK_Workers_first_state : PySem.W.keepIn K (.ref f_Workers_first_state) = true)
    {f_Workers_steps : Addr} {od_Workers_steps an_Workers_steps : Option Addr} {sl_Workers_steps : Array (Option Value)} {oc_Workers_steps kV_Workers_steps dc_Workers_steps pm_Workers_steps cd_Workers_steps ct_Workers_steps : Value}
    (mF_Workers_steps : PySem.W.findIn K (.ref C_Workers) "steps" = some (some (.ref f_Workers_steps)))
    (mI_Workers_steps : PySem.W.isFn K (.ref f_Workers_steps) = true)
    (mL_Workers_steps : K.lookup f_Workers_steps = some ⟨oc_Workers_steps, od_Workers_steps, .func (PySem.W.fnOf "steps" "Workers.steps" (defArgs sWorkers_steps) (defBody sWorkers_steps) (defScope sWorkers_steps) .none kV_Workers_steps dc_Workers_steps pm_Workers_steps an_Workers_steps cd_Workers_steps ct_Workers_steps), sl_Workers_steps⟩)
    (mC_Workers_steps : PySem.W.codeIn K cd_Workers_steps "Workers.steps" = true)
    (mK_Workers_steps : PySem.W.keepIn K (.ref f_Workers_steps) = true)
    {f_Workers_is_end : Addr} {od_Workers_is_end an_Workers_is_end : Option Addr} {sl_Workers_is_end : Array (Option Value)} {oc_Workers_is_end kV_Workers_is_end dc_Workers_is_end pm_Workers_is_end cd_Workers_is_end ct_Workers_is_end : Value}
    (mF_Workers_is_end : PySem.W.findIn K (.ref C_Workers) "is_end" = some (some (.ref f_Workers_is_end)))
    (mI_Workers_is_end : PySem.W.isFn K (.ref f_Workers_is_end) = true)
    (mL_Workers_is_end : K.lookup f_Workers_is_end = some ⟨oc_Workers_is_end, od_Workers_is_end, .func (PySem.W.fnOf "is_end" "Workers.is_end" (defArgs sWorkers_is_end) (defBody sWorkers_is_end) (defScope sWorkers_is_end) .none kV_Workers_is_end dc_Workers_is_end pm_Workers_is_end an_Workers_is_end cd_Workers_is_end ct_Workers_is_end), sl_Workers_is_end⟩)
    (mC_Workers_is_end : PySem.W.codeIn K cd_Workers_is_end "Workers.is_end" = true)
    (mK_Workers_is_end : PySem.W.keepIn K (.ref f_Workers_is_end) = true)
    {f_Rule_is_restart : Addr} {od_Rule_is_restart an_Rule_is_restart : Option Addr} {sl_Rule_is_restart : Array (Option Value)} {oc_Rule_is_restart kV_Rule_is_restart dc_Rule_is_restart pm_Rule_is_restart cd_Rule_is_restart ct_Rule_is_restart : Value}
    {p_Rule_is_restart : Addr} {rs_Rule_is_restart : List Value}
    (mR_Rule_is_restart : PySem.W.readsIn K C_Rule (.type "type") = true)
    (mA_Rule_is_restart : PySem.W.specialIn K (.ref C_Rule) "__getattribute__" = some (some (.builtin "type.__getattribute__")))
    (mW_Rule_is_restart : PySem.W.findCls K (.ref C_Rule) (.type "type") "is_restart" = some (.get (.builtin "staticmethod.__get__") (.ref p_Rule_is_restart) .none (.ref C_Rule)))
    (mP_Rule_is_restart : PySem.W.recIn K p_Rule_is_restart "staticmethod" = some (.ref f_Rule_is_restart :: rs_Rule_is_restart))
    (mL_Rule_is_restart : K.lookup f_Rule_is_restart = some ⟨oc_Rule_is_restart, od_Rule_is_restart, .func (PySem.W.fnOf "is_restart" "Rule.is_restart" (defArgs sRule_is_restart) (defBody sRule_is_restart) (defScope sRule_is_restart) .none kV_Rule_is_restart dc_Rule_is_restart pm_Rule_is_restart an_Rule_is_restart cd_Rule_is_restart ct_Rule_is_restart), sl_Rule_is_restart⟩)
    (mC_Rule_is_restart : PySem.W.codeIn K cd_Rule_is_restart "Rule.is_restart" = true)
    (mK_Rule_is_restart : PySem.W.keepIn K (.ref f_Rule_is_restart) = true)
    : ∃ fd : FuncData, (∀ (s : Shared) (v : Value), BindsTo s fd ⟨[v], []⟩ [("script", v)]) ∧ ∀ base : Heap, K.In base → base.Ns mainGlobals mg → FnOk l.prog w K mg base CX0 8 fa fd ["script"] (splaw K) := by
  have e := hfa.symm.trans (PySem.W.mg_of X G a26)
  cases e
  have T : Top K mg := ⟨def_mk X G a0 l0 c0 k0 (fun _ _ _ _ _ _ us hl => match us, hl with | [_, _, _], _ => rfl),
    def_mk X G a1 l1 c1 k1 (fun _ _ _ _ _ _ us hl => match us, hl with | [_, _, _], _ => rfl),
    def_mk X G a2 l2 c2 k2 (fun _ _ _ _ _ _ us hl => match us, hl with | [_], _ => rfl),
    def_mk X G a3 l3 c3 k3 (fun _ _ _ _ _ _ us hl => match us, hl with | [_, _], _ => rfl),
    def_mk X G a4 l4 c4 k4 (fun _ _ _ _ _ _ us hl => match us, hl with | [_], _ => rfl),
    def_mk X G a5 l5 c5 k5 (fun _ _ _ _ _ _ us hl => match us, hl with | [_, _, _], _ => rfl),
    def_mk X G a6 l6 c6 k6 (fun _ _ _ _ _ _ us hl => match us, hl with | [_, _, _], _ => rfl),
    def_mk X G a7 l7 c7 k7 (fun _ _ _ _ _ _ us hl => match us, hl with | [_, _, _], _ => rfl),
    def_mk X G a8 l8 c8 k8 (fun _ _ _ _ _ _ us hl => match us, hl with | [_], _ => rfl),
    def_mk X G a9 l9 c9 k9 (fun _ _ _ _ _ _ us hl => match us, hl with | [_, _, _, _], _ => rfl),
    def_mk X G a10 l10 c10 k10 (fun _ _ _ _ _ _ us hl => match us, hl with | [_, _, _], _ => rfl),
    def_mk X G a11 l11 c11 k11 (fun _ _ _ _ _ _ us hl => match us, hl with | [_], _ => rfl),
    def_mk X G a12 l12 c12 k12 (fun _ _ _ _ _ _ us hl => match us, hl with | [_, _], _ => rfl),
    def_mk X G a13 l13 c13 k13 (fun _ _ _ _ _ _ us hl => match us, hl with | [_, _, _, _], _ => rfl),
    def_mk X G a14 l14 c14 k14 (fun _ _ _ _ _ _ us hl => match us, hl with | [_, _], _ => rfl),
    def_mk X G a15 l15 c15 k15 (fun _ _ _ _ _ _ us hl => match us, hl with | [_, _], _ => rfl),
    def_mk X G a16 l16 c16 k16 (fun _ _ _ _ _ _ us hl => match us, hl with | [_], _ => rfl),
    def_mk X G a17 l17 c17 k17 (fun _ _ _ _ _ _ us hl => match us, hl with | [_], _ => rfl),
    def_mk X G a18 l18 c18 k18 (fun _ _ _ _ _ _ us hl => match us, hl with | [_], _ => rfl),
    def_mk X G a19 l19 c19 k19 (fun _ _ _ _ _ _ us hl => match us, hl with | [_, _, _], _ => rfl),
    def_mk X G a20 l20 c20 k20 (fun _ _ _ _ _ _ us hl => match us, hl with | [_], _ => rfl),
    def_mk X G a21 l21 c21 k21 (fun _ _ _ _ _ _ us hl => match us, hl with | [_, _], _ => rfl),
    def_mk X G a22 l22 c22 k22 (fun _ _ _ _ _ _ us hl => match us, hl with | [_, _], _ => rfl),
    def_mk X G a23 l23 c23 k23 (fun _ _ _ _ _ _ us hl => match us, hl with | [_], _ => rfl),
    def_mk X G a24 l24 c24 k24 (fun _ _ _ _ _ _ us hl => match us, hl with | [_, _, _, _], _ => rfl),
    def_mk X G a25 l25 c25 k25 (fun _ _ _ _ _ _ us hl => match us, hl with | [_, _, _, _], _ => rfl),
    def_mk X G a26 l26 c26 k26 (fun _ _ _ _ _ _ us hl => match us, hl with | [_], _ => rfl),
    PySem.W.mg_none_of X G z0,
    PySem.W.mg_none_of X G z1,
    PySem.W.mg_none_of X G z2,
    PySem.W.mg_none_of X G z3,
    PySem.W.mg_none_of X G z4,
    PySem.W.mg_none_of X G z5,
    PySem.W.mg_none_of X G z6,
    PySem.W.mg_none_of X G z7,
    PySem.W.mg_none_of X G z8,
    PySem.W.mg_none_of X G z9,
    PySem.W.mg_none_of X G z10,
    PySem.W.mg_none_of X G z11,
    PySem.W.mg_none_of X G z12,
    (by rw [atTop_of gC_Rule]; exact ⟨PySem.W.mg_of X G gC_Rule, gK_Rule, ⟨gP_Rule, gH_Rule, gO_Rule, gS_Rule⟩⟩),
    (by rw [atTop_of gC_FromTop]; exact ⟨PySem.W.mg_of X G gC_FromTop, gK_FromTop, ⟨gP_FromTop, gH_FromTop, gO_FromTop, gS_FromTop⟩⟩),
    (by rw [atTop_of gC_FromMark]; exact ⟨PySem.W.mg_of X G gC_FromMark, gK_FromMark, ⟨gP_FromMark, gH_FromMark, gO_FromMark, gS_FromMark⟩⟩),
    (by rw [atTop_of gC_FromPoints]; exact ⟨PySem.W.mg_of X G gC_FromPoints, gK_FromPoints, ⟨gP_FromPoints, gH_FromPoints, gO_FromPoints, gS_FromPoints⟩⟩),
    (by rw [atTop_of gC_Late]; exact ⟨PySem.W.mg_of X G gC_Late, gK_Late, ⟨gP_Late, gH_Late, gO_Late, gS_Late⟩⟩),
    (by rw [atTop_of gC_Either]; exact ⟨PySem.W.mg_of X G gC_Either, gK_Either, ⟨gP_Either, gH_Either, gO_Either, gS_Either⟩⟩),
    (by rw [atTop_of gC_Lagging]; exact ⟨PySem.W.mg_of X G gC_Lagging, gK_Lagging, ⟨gP_Lagging, gH_Lagging, gO_Lagging, gS_Lagging⟩⟩),
    (by rw [atTop_of gC_Workers]; exact ⟨PySem.W.mg_of X G gC_Workers, gK_Workers, ⟨gP_Workers, gH_Workers, gO_Workers, gS_Workers⟩⟩),
    (by rw [atTop_of gC_Rule]; exact ⟨gM0_Rule, gI0_Rule, gK_Rule⟩),
    (by rw [atTop_of gC_FromTop]; exact ⟨gM0_FromTop, gI0_FromTop, gK_FromTop⟩),
    (by rw [atTop_of gC_FromMark]; exact ⟨gM0_FromMark, gI0_FromMark, gK_FromMark⟩),
    (by rw [atTop_of gC_Rule]; exact ⟨⟨gP_Rule, gH_Rule, gO_Rule, gS_Rule⟩, iA_Rule, iN_Rule, iT_Rule, iM_Rule⟩),
    (by rw [atTop_of gC_FromTop]; exact ⟨⟨gP_FromTop, gH_FromTop, gO_FromTop, gS_FromTop⟩, iA_FromTop, iN_FromTop, iT_FromTop, iM_FromTop⟩),
    (by rw [atTop_of gC_FromMark]; exact ⟨⟨gP_FromMark, gH_FromMark, gO_FromMark, gS_FromMark⟩, iA_FromMark, iN_FromMark, iT_FromMark, iM_FromMark⟩),
    (by rw [atTop_of gC_FromPoints]; exact ⟨⟨gP_FromPoints, gH_FromPoints, gO_FromPoints, gS_FromPoints⟩, iA_FromPoints, iN_FromPoints, iT_FromPoints, iM_FromPoints⟩),
    (by rw [atTop_of gC_Late]; exact ⟨⟨gP_Late, gH_Late, gO_Late, gS_Late⟩, iA_Late, iN_Late, iT_Late, iM_Late⟩),
    (by rw [atTop_of gC_Rule]; exact kit_refT jI_Rule jT_Rule jS_Rule),
    (by rw [atTop_of gC_FromTop, atTop_of gC_Rule]; exact kit_refT jI_Rule jT_Rule jK_FromTop_Rule),
    (by rw [atTop_of gC_FromMark, atTop_of gC_Rule]; exact kit_refT jI_Rule jT_Rule jK_FromMark_Rule),
    (by rw [atTop_of gC_FromPoints, atTop_of gC_Rule]; exact kit_refT jI_Rule jT_Rule jK_FromPoints_Rule),
    (by rw [atTop_of gC_Late, atTop_of gC_Rule]; exact kit_refT jI_Rule jT_Rule jK_Late_Rule),
    (by rw [atTop_of gC_Rule, atTop_of gC_Either]; exact kit_refF jI_Either jT_Either jK_Rule_Either jS_Rule),
    (by rw [atTop_of gC_FromTop, atTop_of gC_Either]; exact kit_refF jI_Either jT_Either jK_FromTop_Either jS_FromTop),
    (by rw [atTop_of gC_FromMark, atTop_of gC_Either]; exact kit_refF jI_Either jT_Either jK_FromMark_Either jS_FromMark),
    (by rw [atTop_of gC_FromPoints, atTop_of gC_Either]; exact kit_refF jI_Either jT_Either jK_FromPoints_Either jS_FromPoints),
    (by rw [atTop_of gC_Late, atTop_of gC_Either]; exact kit_refF jI_Either jT_Either jK_Late_Either jS_Late),
    (by rw [atTop_of gC_FromPoints]; exact gN_FromPoints_points),
    (by rw [atTop_of gC_FromPoints]; exact gN_FromPoints_newest),
    (by rw [atTop_of gC_Late]; exact gN_Late_lines),
    (by rw [atTop_of gC_Either]; exact gN_Either_parts),
    (by rw [atTop_of gC_Lagging]; exact gN_Lagging_age),
    (by rw [atTop_of gC_Workers]; exact gN_Workers_count),
    (by rw [atTop_of gC_FromTop]; exact ⟨_, gV_FromTop_RESTART, ⟨_, rfl⟩, gG_FromTop_RESTART, by decide +kernel⟩),
    (by rw [atTop_of gC_FromMark]; exact ⟨_, gV_FromMark_RESTART, ⟨_, rfl⟩, gG_FromMark_RESTART, by decide +kernel⟩),
    (by rw [atTop_of gC_FromPoints]; exact ⟨_, gV_FromPoints_RESTART, ⟨_, rfl⟩, gG_FromPoints_RESTART, by decide +kernel⟩),
    (by rw [atTop_of gC_Lagging]; exact ⟨_, gV_Lagging_RESTART, ⟨_, rfl⟩, gG_Lagging_RESTART, by decide +kernel⟩),
    (by rw [atTop_of gC_Rule]; exact ⟨_, gV_Rule_SIMPLE, rfl, gG_Rule_SIMPLE, by decide +kernel⟩),
    (by rw [atTop_of gC_FromTop]; exact ⟨_, gV_FromTop_SIMPLE, rfl, gG_FromTop_SIMPLE, by decide +kernel⟩),
    (by rw [atTop_of gC_FromMark]; exact ⟨_, gV_FromMark_SIMPLE, rfl, gG_FromMark_SIMPLE, by decide +kernel⟩),
    (by rw [atTop_of gC_FromPoints]; exact ⟨_, gV_FromPoints_SIMPLE, rfl, gG_FromPoints_SIMPLE, by decide +kernel⟩),
    (by rw [atTop_of gC_Late]; exact ⟨_, gV_Late_SIMPLE, rfl, gG_Late_SIMPLE, by decide +kernel⟩),
    (by rw [atTop_of gC_Workers]; exact ⟨_, gV_Workers_RESTART, ⟨_, rfl⟩, gG_Workers_RESTART, by decide +kernel⟩),
    (by rw [atTop_of gC_Rule]; exact ⟨⟨gR_Rule_RESTART, gA_Rule_RESTART⟩, _, gW_Rule_RESTART, ⟨_, rfl⟩⟩),
    (by
      rw [atTop_of gC_Rule]
      have F := fun_mk (st := sRule_first_state) mL_Rule_first_state mC_Rule_first_state mK_Rule_first_state
      exact ⟨f_Rule_first_state, _, ⟨F, F.binds (ps := ["self"]) fun _ _ _ _ _ _ us hl => match us, hl with | [_], _ => rfl, ⟨mF_Rule_first_state, mI_Rule_first_state, mK_Rule_first_state⟩⟩⟩),
    (by
      rw [atTop_of gC_Rule]
      have F := fun_mk (st := sRule_steps) mL_Rule_steps mC_Rule_steps mK_Rule_steps
      exact ⟨f_Rule_steps, _, ⟨F, F.binds (ps := ["self", "state", "length"]) fun _ _ _ _ _ _ us hl => match us, hl with | [_, _, _], _ => rfl, ⟨mF_Rule_steps, mI_Rule_steps, mK_Rule_steps⟩⟩⟩),
    (by
      rw [atTop_of gC_Rule]
      have F := fun_mk (st := sRule_is_end) mL_Rule_is_end mC_Rule_is_end mK_Rule_is_end
      exact ⟨f_Rule_is_end, _, ⟨F, F.binds (ps := ["self", "state", "length"]) fun _ _ _ _ _ _ us hl => match us, hl with | [_, _, _], _ => rfl, ⟨mF_Rule_is_end, mI_Rule_is_end, mK_Rule_is_end⟩⟩⟩),
    (by
      rw [atTop_of gC_Rule]
      have F := fun_mk (st := sRule_further) mL_Rule_further mC_Rule_further mK_Rule_further
      exact ⟨f_Rule_further, _, ⟨F, F.binds (ps := ["self", "position"]) fun _ _ _ _ _ _ us hl => match us, hl with | [_, _], _ => rfl, ⟨mF_Rule_further, mI_Rule_further, mK_Rule_further⟩⟩⟩),
    (by
      rw [atTop_of gC_FromTop]
      have F := fun_mk (st := sFromTop_steps) mL_FromTop_steps mC_FromTop_steps mK_FromTop_steps
      exact ⟨f_FromTop_steps, _, ⟨F, F.binds (ps := ["self", "state", "length"]) fun _ _ _ _ _ _ us hl => match us, hl with | [_, _, _], _ => rfl, ⟨mF_FromTop_steps, mI_FromTop_steps, mK_FromTop_steps⟩⟩⟩),
    (by
      rw [atTop_of gC_FromTop]
      have F := fun_mk (st := sFromTop_further) mL_FromTop_further mC_FromTop_further mK_FromTop_further
      exact ⟨f_FromTop_further, _, ⟨F, F.binds (ps := ["self", "position"]) fun _ _ _ _ _ _ us hl => match us, hl with | [_, _], _ => rfl, ⟨mF_FromTop_further, mI_FromTop_further, mK_FromTop_further⟩⟩⟩),
    (by
      rw [atTop_of gC_FromMark]
      have F := fun_mk (st := sFromMark_steps) mL_FromMark_steps mC_FromMark_steps mK_FromMark_steps
      exact ⟨f_FromMark_steps, _, ⟨F, F.binds (ps := ["self", "state", "length"]) fun _ _ _ _ _ _ us hl => match us, hl with | [_, _, _], _ => rfl, ⟨mF_FromMark_steps, mI_FromMark_steps, mK_FromMark_steps⟩⟩⟩),
    (by
      rw [atTop_of gC_FromMark]
      have F := fun_mk (st := sFromMark_further) mL_FromMark_further mC_FromMark_further mK_FromMark_further
      exact ⟨f_FromMark_further, _, ⟨F, F.binds (ps := ["self", "position"]) fun _ _ _ _ _ _ us hl => match us, hl with | [_, _], _ => rfl, ⟨mF_FromMark_further, mI_FromMark_further, mK_FromMark_further⟩⟩⟩),
    (by
      rw [atTop_of gC_FromPoints]
      have F : FunD K "__init__" "FromPoints.__init__" (defArgs sFromPointsu_initu) (defBody sFromPointsu_initu) (defScope sFromPointsu_initu) [] [("newest", .bl true)] f_FromPointsu_initu _ := ⟨⟨_, _, _, _, _, _, _, _, _, _, rfl, mL_FromPointsu_initu, mC_FromPointsu_initu, .inl ⟨rfl, rfl⟩, .inr ⟨kD_FromPointsu_initu, rfl, fun q hq => by rw [List.mem_singleton.mp hq]; exact ⟨_, kQ_FromPointsu_initu, rfl⟩⟩⟩, mK_FromPointsu_initu⟩
      refine ⟨f_FromPointsu_initu, _, F, ⟨mM_FromPointsu_initu, mF_FromPointsu_initu, mI_FromPointsu_initu, gK_FromPoints⟩, ?_, ?_⟩
      · obtain ⟨mv, kb⟩ := F.kbinds0 (ps := ["self", "points", "newest"]) 2 [] [("newest", .bl true)] (fun us mv _ => us ++ mv) (by simp) (fun q hq => hq) (fun r1 r2 _ => r1.append r2) fun D doc pm an cdv ct us mv ws l1 l2 l3 => match us, mv, ws, l1, l2, l3 with | [_, _], [_], [], _, _, _ => ⟨_, _, _, _, _, _, rfl, rfl, rfl⟩
        exact ⟨_, _, kb, fun _ _ => rfl⟩
      · obtain ⟨mv, kb⟩ := F.kbinds0 (ps := ["self", "points", "newest"]) 2 ["newest"] [] (fun us _ ws => us ++ ws) (by simp) (fun q hq => by cases hq) (fun r1 _ r2 => r1.append r2) fun D doc pm an cdv ct us mv ws l1 l2 l3 => match us, mv, ws, l1, l2, l3 with | [_, _], [], [_], _, _, _ => rfl
        exact ⟨_, _, kb, fun _ _ _ => rfl⟩),
    (by
      rw [atTop_of gC_FromPoints]
      have F := fun_mk (st := sFromPoints_steps) mL_FromPoints_steps mC_FromPoints_steps mK_FromPoints_steps
      exact ⟨f_FromPoints_steps, _, ⟨F, F.binds (ps := ["self", "state", "length"]) fun _ _ _ _ _ _ us hl => match us, hl with | [_, _, _], _ => rfl, ⟨mF_FromPoints_steps, mI_FromPoints_steps, mK_FromPoints_steps⟩⟩⟩),
    (by
      rw [atTop_of gC_FromPoints]
      have F := fun_mk (st := sFromPoints_further) mL_FromPoints_further mC_FromPoints_further mK_FromPoints_further
      exact ⟨f_FromPoints_further, _, ⟨F, F.binds (ps := ["self", "position"]) fun _ _ _ _ _ _ us hl => match us, hl with | [_, _], _ => rfl, ⟨mF_FromPoints_further, mI_FromPoints_further, mK_FromPoints_further⟩⟩⟩),
    (by
      rw [atTop_of gC_Late]
      have F : FunD K "__init__" "Late.__init__" (defArgs sLateu_initu) (defBody sLateu_initu) (defScope sLateu_initu) [.non] [] f_Lateu_initu _ := ⟨⟨_, _, _, _, _, _, _, _, _, _, rfl, mL_Lateu_initu, mC_Lateu_initu, .inr ⟨List.cons_ne_nil _ _, dT_Lateu_initu, dO_Lateu_initu, [.none], dN_Lateu_initu, rfl, tD_Lateu_initu, uD_Lateu_initu, .cons rfl .nil⟩, .inl rfl⟩, mK_Lateu_initu⟩
      refine ⟨f_Lateu_initu, _, F, ⟨mM_Lateu_initu, mF_Lateu_initu, mI_Lateu_initu, gK_Late⟩, ?_⟩
      obtain ⟨ds, v, b⟩ := F.binds1 (ps := ["self", "lines"]) 2 1 (by simp) rfl fun T kV doc pm an cdv ct us its hl hl2 => match us, its, hl, hl2 with | [_, _], [_], _, _ => ⟨_, rfl, rfl⟩
      cases v
      exact b),
    (by
      rw [atTop_of gC_Late]
      have F := fun_mk (st := sLate_steps) mL_Late_steps mC_Late_steps mK_Late_steps
      exact ⟨f_Late_steps, _, ⟨F, F.binds (ps := ["self", "state", "length"]) fun _ _ _ _ _ _ us hl => match us, hl with | [_, _, _], _ => rfl, ⟨mF_Late_steps, mI_Late_steps, mK_Late_steps⟩⟩⟩),
    (by
      rw [atTop_of gC_Late]
      have F := fun_mk (st := sLate_further) mL_Late_further mC_Late_further mK_Late_further
      exact ⟨f_Late_further, _, ⟨F, F.binds (ps := ["self", "position"]) fun _ _ _ _ _ _ us hl => match us, hl with | [_, _], _ => rfl, ⟨mF_Late_further, mI_Late_further, mK_Late_further⟩⟩⟩),
    (by rw [atTop_of gC_Either]; exact ⟨f_Eitheru_initu, _, fun_mk mL_Eitheru_initu mC_Eitheru_initu mK_Eitheru_initu, ⟨mM_Eitheru_initu, mF_Eitheru_initu, mI_Eitheru_initu, gK_Either⟩⟩),
    (by
      rw [atTop_of gC_Either]
      have F := fun_mk (st := sEither_steps) mL_Either_steps mC_Either_steps mK_Either_steps
      exact ⟨f_Either_steps, _, ⟨F, F.binds (ps := ["self", "state", "length"]) fun _ _ _ _ _ _ us hl => match us, hl with | [_, _, _], _ => rfl, ⟨mF_Either_steps, mI_Either_steps, mK_Either_steps⟩⟩⟩),
    (by
      rw [atTop_of gC_Either]
      have F := fun_mk (st := sEither_further) mL_Either_further mC_Either_further mK_Either_further
      exact ⟨f_Either_further, _, ⟨F, F.binds (ps := ["self", "position"]) fun _ _ _ _ _ _ us hl => match us, hl with | [_, _], _ => rfl, ⟨mF_Either_further, mI_Either_further, mK_Either_further⟩⟩⟩),
    (by
      rw [atTop_of gC_Lagging]
      have F := fun_mk (st := sLaggingu_initu) mL_Laggingu_initu mC_Laggingu_initu mK_Laggingu_initu
      exact ⟨f_Laggingu_initu, _, ⟨F, F.binds (ps := ["self", "age"]) fun _ _ _ _ _ _ us hl => match us, hl with | [_, _], _ => rfl, ⟨mM_Laggingu_initu, mF_Laggingu_initu, mI_Laggingu_initu, gK_Lagging⟩⟩⟩),
    (by
      rw [atTop_of gC_Lagging]
      have F := fun_mk (st := sLagging_first_state) mL_Lagging_first_state mC_Lagging_first_state mK_Lagging_first_state
      exact ⟨f_Lagging_first_state, _, ⟨F, F.binds (ps := ["self"]) fun _ _ _ _ _ _ us hl => match us, hl with | [_], _ => rfl, ⟨mF_Lagging_first_state, mI_Lagging_first_state, mK_Lagging_first_state⟩⟩⟩),
    (by
      rw [atTop_of gC_Lagging]
      have F := fun_mk (st := sLagging_steps) mL_Lagging_steps mC_Lagging_steps mK_Lagging_steps
      exact ⟨f_Lagging_steps, _, ⟨F, F.binds (ps := ["self", "state", "length"]) fun _ _ _ _ _ _ us hl => match us, hl with | [_, _, _], _ => rfl, ⟨mF_Lagging_steps, mI_Lagging_steps, mK_Lagging_steps⟩⟩⟩),
    (by
      rw [atTop_of gC_Lagging]
      have F := fun_mk (st := sLagging_is_end) mL_Lagging_is_end mC_Lagging_is_end mK_Lagging_is_end
      exact ⟨f_Lagging_is_end, _, ⟨F, F.binds (ps := ["self", "state", "length"]) fun _ _ _ _ _ _ us hl => match us, hl with | [_, _, _], _ => rfl, ⟨mF_Lagging_is_end, mI_Lagging_is_end, mK_Lagging_is_end⟩⟩⟩),
    (by
      rw [atTop_of gC_FromTop]
      have F := fun_mk (st := sRule_first_state) mL_FromTop_first_state mC_FromTop_first_state mK_FromTop_first_state
      exact ⟨f_FromTop_first_state, _, ⟨F, F.binds (ps := ["self"]) fun _ _ _ _ _ _ us hl => match us, hl with | [_], _ => rfl, ⟨mF_FromTop_first_state, mI_FromTop_first_state, mK_FromTop_first_state⟩⟩⟩),
    (by
      rw [atTop_of gC_FromTop]
      have F := fun_mk (st := sRule_is_end) mL_FromTop_is_end mC_FromTop_is_end mK_FromTop_is_end
      exact ⟨f_FromTop_is_end, _, ⟨F, F.binds (ps := ["self", "state", "length"]) fun _ _ _ _ _ _ us hl => match us, hl with | [_, _, _], _ => rfl, ⟨mF_FromTop_is_end, mI_FromTop_is_end, mK_FromTop_is_end⟩⟩⟩),
    (by
      rw [atTop_of gC_FromMark]
      have F := fun_mk (st := sRule_first_state) mL_FromMark_first_state mC_FromMark_first_state mK_FromMark_first_state
      exact ⟨f_FromMark_first_state, _, ⟨F, F.binds (ps := ["self"]) fun _ _ _ _ _ _ us hl => match us, hl with | [_], _ => rfl, ⟨mF_FromMark_first_state, mI_FromMark_first_state, mK_FromMark_first_state⟩⟩⟩),
    (by
      rw [atTop_of gC_FromMark]
      have F := fun_mk (st := sRule_is_end) mL_FromMark_is_end mC_FromMark_is_end mK_FromMark_is_end
      exact ⟨f_FromMark_is_end, _, ⟨F, F.binds (ps := ["self", "state", "length"]) fun _ _ _ _ _ _ us hl => match us, hl with | [_, _, _], _ => rfl, ⟨mF_FromMark_is_end, mI_FromMark_is_end, mK_FromMark_is_end⟩⟩⟩),
    (by
      rw [atTop_of gC_FromPoints]
      have F := fun_mk (st := sRule_first_state) mL_FromPoints_first_state mC_FromPoints_first_state mK_FromPoints_first_state
      exact ⟨f_FromPoints_first_state, _, ⟨F, F.binds (ps := ["self"]) fun _ _ _ _ _ _ us hl => match us, hl with | [_], _ => rfl, ⟨mF_FromPoints_first_state, mI_FromPoints_first_state, mK_FromPoints_first_state⟩⟩⟩),
    (by
      rw [atTop_of gC_FromPoints]
      have F := fun_mk (st := sRule_is_end) mL_FromPoints_is_end mC_FromPoints_is_end mK_FromPoints_is_end
      exact ⟨f_FromPoints_is_end, _, ⟨F, F.binds (ps := ["self", "state", "length"]) fun _ _ _ _ _ _ us hl => match us, hl with | [_, _, _], _ => rfl, ⟨mF_FromPoints_is_end, mI_FromPoints_is_end, mK_FromPoints_is_end⟩⟩⟩),
    (by
      rw [atTop_of gC_Late]
      have F := fun_mk (st := sRule_first_state) mL_Late_first_state mC_Late_first_state mK_Late_first_state
      exact ⟨f_Late_first_state, _, ⟨F, F.binds (ps := ["self"]) fun _ _ _ _ _ _ us hl => match us, hl with | [_], _ => rfl, ⟨mF_Late_first_state, mI_Late_first_state, mK_Late_first_state⟩⟩⟩),
    (by
      rw [atTop_of gC_Late]
      have F := fun_mk (st := sRule_is_end) mL_Late_is_end mC_Late_is_end mK_Late_is_end
      exact ⟨f_Late_is_end, _, ⟨F, F.binds (ps := ["self", "state", "length"]) fun _ _ _ _ _ _ us hl => match us, hl with | [_, _, _], _ => rfl, ⟨mF_Late_is_end, mI_Late_is_end, mK_Late_is_end⟩⟩⟩),
    (by
      rw [atTop_of gC_Either]
      have F := fun_mk (st := sRule_first_state) mL_Either_first_state mC_Either_first_state mK_Either_first_state
      exact ⟨f_Either_first_state, _, ⟨F, F.binds (ps := ["self"]) fun _ _ _ _ _ _ us hl => match us, hl with | [_], _ => rfl, ⟨mF_Either_first_state, mI_Either_first_state, mK_Either_first_state⟩⟩⟩),
    (by
      rw [atTop_of gC_Either]
      have F := fun_mk (st := sRule_is_end) mL_Either_is_end mC_Either_is_end mK_Either_is_end
      exact ⟨f_Either_is_end, _, ⟨F, F.binds (ps := ["self", "state", "length"]) fun _ _ _ _ _ _ us hl => match us, hl with | [_, _, _], _ => rfl, ⟨mF_Either_is_end, mI_Either_is_end, mK_Either_is_end⟩⟩⟩),
    (by
      rw [atTop_of gC_Workers]
      have F := fun_mk (st := sWorkersu_initu) mL_Workersu_initu mC_Workersu_initu mK_Workersu_initu
      exact ⟨f_Workersu_initu, _, ⟨F, F.binds (ps := ["self", "count"]) fun _ _ _ _ _ _ us hl => match us, hl with | [_, _], _ => rfl, ⟨mM_Workersu_initu, mF_Workersu_initu, mI_Workersu_initu, gK_Workers⟩⟩⟩),
    (by
      rw [atTop_of gC_Workers]
      have F := fun_mk (st := sWorkers_first_state) mL_Workers_first_state mC_Workers_first_state mK_Workers_first_state
      exact ⟨f_Workers_first_state, _, ⟨F, F.binds (ps := ["self"]) fun _ _ _ _ _ _ us hl => match us, hl with | [_], _ => rfl, ⟨mF_Workers_first_state, mI_Workers_first_state, mK_Workers_first_state⟩⟩⟩),
    (by
      rw [atTop_of gC_Workers]
      have F := fun_mk (st := sWorkers_steps) mL_Workers_steps mC_Workers_steps mK_Workers_steps
      exact ⟨f_Workers_steps, _, ⟨F, F.binds (ps := ["self", "state", "length"]) fun _ _ _ _ _ _ us hl => match us, hl with | [_, _, _], _ => rfl, ⟨mF_Workers_steps, mI_Workers_steps, mK_Workers_steps⟩⟩⟩),
    (by
      rw [atTop_of gC_Workers]
      have F := fun_mk (st := sWorkers_is_end) mL_Workers_is_end mC_Workers_is_end mK_Workers_is_end
      exact ⟨f_Workers_is_end, _, ⟨F, F.binds (ps := ["self", "state", "length"]) fun _ _ _ _ _ _ us hl => match us, hl with | [_, _, _], _ => rfl, ⟨mF_Workers_is_end, mI_Workers_is_end, mK_Workers_is_end⟩⟩⟩),
    (by
      rw [atTop_of gC_Rule]
      have F := fun_mk (st := sRule_is_restart) mL_Rule_is_restart mC_Rule_is_restart mK_Rule_is_restart
      exact ⟨f_Rule_is_restart, _, ⟨F, F.binds (ps := ["step"]) fun _ _ _ _ _ _ us hl => match us, hl with | [_], _ => rfl, ⟨_, mA_Rule_is_restart, mR_Rule_is_restart, mW_Rule_is_restart, ⟨_, mP_Rule_is_restart⟩, mK_Rule_is_restart⟩⟩⟩)⟩
  have F := fun_mk (st := slaw) l26 c26 k26
  exact ⟨_, fun s v => .of_eq rfl, fun base _ _ => oklaw T ⟨F, F.binds (ps := ["script"]) fun _ _ _ _ _ _ us hl => match us, hl with | [_], _ => rfl, PySem.W.mg_of X G a26⟩⟩
end K11
open PySem PySem.W PyProof.Rows in
set_option maxRecDepth 100000 in
set_option maxHeartbeats 0 in
theorem PySem.Challenge.cw_redolots_k11_whole_first_executions_holds : PySem.Challenge.rw_redolots_k11_whole_first_executions.Holds := by
  w_on; o_law; k_head; (case hw => w_witness2)
  k_fill
  refine L2.walk_ofK (l := PySem.Challenge.rw_redolots_k11_whole_first_executions) (n := 63) (k := 8) (x := "script") (CX := L2.CX0) (sp := K11.splaw) rfl (by decide) rfl ⟨rfl, by decide, by decide⟩ (fun w h Y => PySem.W.kIn_of Y) ?F (fun K H a ns hl _ hS => ⟨a, ns, rfl, hS, hl, fun _ => rfl⟩) (fun _ _ _ _ z => z)
  case F =>
    intro w mg fa h KX G hmg
    refine' K11.all_mk KX G hmg ?a0 ?l0 ?c0 ?k0 ?a1 ?l1 ?c1 ?k1 ?a2 ?l2 ?c2 ?k2 ?a3 ?l3 ?c3 ?k3 ?a4 ?l4 ?c4 ?k4 ?a5 ?l5 ?c5 ?k5 ?a6 ?l6 ?c6 ?k6 ?a7 ?l7 ?c7 ?k7 ?a8 ?l8 ?c8 ?k8 ?a9 ?l9 ?c9 ?k9 ?a10 ?l10 ?c10 ?k10 ?a11 ?l11 ?c11 ?k11 ?a12 ?l12 ?c12 ?k12 ?a13 ?l13 ?c13 ?k13 ?a14 ?l14 ?c14 ?k14 ?a15 ?l15 ?c15 ?k15 ?a16 ?l16 ?c16 ?k16 ?a17 ?l17 ?c17 ?k17 ?a18 ?l18 ?c18 ?k18 ?a19 ?l19 ?c19 ?k19 ?a20 ?l20 ?c20 ?k20 ?a21 ?l21 ?c21 ?k21 ?a22 ?l22 ?c22 ?k22 ?a23 ?l23 ?c23 ?k23 ?a24 ?l24 ?c24 ?k24 ?a25 ?l25 ?c25 ?k25 ?a26 ?l26 ?c26 ?k26 ?z0 ?z1 ?z2 ?z3 ?z4 ?z5 ?z6 ?z7 ?z8 ?z9 ?z10 ?z11 ?z12 ?gC_Rule ?gP_Rule ?gH_Rule ?gO_Rule ?gS_Rule ?gK_Rule ?gC_FromTop ?gP_FromTop ?gH_FromTop ?gO_FromTop ?gS_FromTop ?gK_FromTop ?gC_FromMark ?gP_FromMark ?gH_FromMark ?gO_FromMark ?gS_FromMark ?gK_FromMark ?gC_FromPoints ?gP_FromPoints ?gH_FromPoints ?gO_FromPoints ?gS_FromPoints ?gK_FromPoints ?gC_Late ?gP_Late ?gH_Late ?gO_Late ?gS_Late ?gK_Late ?gC_Either ?gP_Either ?gH_Either ?gO_Either ?gS_Either ?gK_Either ?gC_Lagging ?gP_Lagging ?gH_Lagging ?gO_Lagging ?gS_Lagging ?gK_Lagging ?gC_Workers ?gP_Workers ?gH_Workers ?gO_Workers ?gS_Workers ?gK_Workers ?gM0_Rule ?gI0_Rule ?gM0_FromTop ?gI0_FromTop ?gM0_FromMark ?gI0_FromMark ?iA_Rule ?iN_Rule ?iT_Rule ?iM_Rule ?iA_FromTop ?iN_FromTop ?iT_FromTop ?iM_FromTop ?iA_FromMark ?iN_FromMark ?iT_FromMark ?iM_FromMark ?iA_FromPoints ?iN_FromPoints ?iT_FromPoints ?iM_FromPoints ?iA_Late ?iN_Late ?iT_Late ?iM_Late ?jI_Rule ?jT_Rule ?jS_Rule ?jI_FromTop ?jT_FromTop ?jS_FromTop ?jK_FromTop_Rule ?jI_FromMark ?jT_FromMark ?jS_FromMark ?jK_FromMark_Rule ?jI_FromPoints ?jT_FromPoints ?jS_FromPoints ?jK_FromPoints_Rule ?jI_Late ?jT_Late ?jS_Late ?jK_Late_Rule ?jI_Either ?jT_Either ?jS_Either ?jK_Rule_Either ?jK_FromTop_Either ?jK_FromMark_Either ?jK_FromPoints_Either ?jK_Late_Either ?gN_FromPoints_points ?gN_FromPoints_newest ?gN_Late_lines ?gN_Either_parts ?gN_Lagging_age ?gN_Workers_count ?gV_FromTop_RESTART ?gG_FromTop_RESTART ?gV_FromMark_RESTART ?gG_FromMark_RESTART ?gV_FromPoints_RESTART ?gG_FromPoints_RESTART ?gV_Lagging_RESTART ?gG_Lagging_RESTART ?gV_Rule_SIMPLE ?gG_Rule_SIMPLE ?gV_FromTop_SIMPLE ?gG_FromTop_SIMPLE ?gV_FromMark_SIMPLE ?gG_FromMark_SIMPLE ?gV_FromPoints_SIMPLE ?gG_FromPoints_SIMPLE ?gV_Late_SIMPLE ?gG_Late_SIMPLE ?gV_Workers_RESTART ?gG_Workers_RESTART ?gR_Rule_RESTART ?gA_Rule_RESTART ?gW_Rule_RESTART ?mF_Rule_first_state ?mI_Rule_first_state ?mL_Rule_first_state ?mC_Rule_first_state ?mK_Rule_first_state ?mF_Rule_steps ?mI_Rule_steps ?mL_Rule_steps ?mC_Rule_steps ?mK_Rule_steps ?mF_Rule_is_end ?mI_Rule_is_end ?mL_Rule_is_end ?mC_Rule_is_end ?mK_Rule_is_end ?mF_Rule_further ?mI_Rule_further ?mL_Rule_further ?mC_Rule_further ?mK_Rule_further ?mF_FromTop_steps ?mI_FromTop_steps ?mL_FromTop_steps ?mC_FromTop_steps ?mK_FromTop_steps ?mF_FromTop_further ?mI_FromTop_further ?mL_FromTop_further ?mC_FromTop_further ?mK_FromTop_further ?mF_FromMark_steps ?mI_FromMark_steps ?mL_FromMark_steps ?mC_FromMark_steps ?mK_FromMark_steps ?mF_FromMark_further ?mI_FromMark_further ?mL_FromMark_further ?mC_FromMark_further ?mK_FromMark_further ?mF_FromPointsu_initu ?mI_FromPointsu_initu ?mL_FromPointsu_initu ?mC_FromPointsu_initu ?mK_FromPointsu_initu ?mM_FromPointsu_initu ?kQ_FromPointsu_initu ?mF_FromPoints_steps ?mI_FromPoints_steps ?mL_FromPoints_steps ?mC_FromPoints_steps ?mK_FromPoints_steps ?mF_FromPoints_further ?mI_FromPoints_further ?mL_FromPoints_further ?mC_FromPoints_further ?mK_FromPoints_further ?mF_Lateu_initu ?mI_Lateu_initu ?mL_Lateu_initu ?mC_Lateu_initu ?mK_Lateu_initu ?mM_Lateu_initu ?tD_Lateu_initu ?uD_Lateu_initu ?mF_Late_steps ?mI_Late_steps ?mL_Late_steps ?mC_Late_steps ?mK_Late_steps ?mF_Late_further ?mI_Late_further ?mL_Late_further ?mC_Late_further ?mK_Late_further ?mF_Eitheru_initu ?mI_Eitheru_initu ?mL_Eitheru_initu ?mC_Eitheru_initu ?mK_Eitheru_initu ?mM_Eitheru_initu ?mF_Either_steps ?mI_Either_steps ?mL_Either_steps ?mC_Either_steps ?mK_Either_steps ?mF_Either_further ?mI_Either_further ?mL_Either_further ?mC_Either_further ?mK_Either_further ?mF_Laggingu_initu ?mI_Laggingu_initu ?mL_Laggingu_initu ?mC_Laggingu_initu ?mK_Laggingu_initu ?mM_Laggingu_initu ?mF_Lagging_first_state ?mI_Lagging_first_state ?mL_Lagging_first_state ?mC_Lagging_first_state ?mK_Lagging_first_state ?mF_Lagging_steps ?mI_Lagging_steps ?mL_Lagging_steps ?mC_Lagging_steps ?mK_Lagging_steps ?mF_Lagging_is_end ?mI_Lagging_is_end ?mL_Lagging_is_end ?mC_Lagging_is_end ?mK_Lagging_is_end ?mF_FromTop_first_state ?mI_FromTop_first_state ?mL_FromTop_first_state ?mC_FromTop_first_state ?mK_FromTop_first_state ?mF_FromTop_is_end ?mI_FromTop_is_end ?mL_FromTop_is_end ?mC_FromTop_is_end ?mK_FromTop_is_end ?mF_FromMark_first_state ?mI_FromMark_first_state ?mL_FromMark_first_state ?mC_FromMark_first_state ?mK_FromMark_first_state ?mF_FromMark_is_end ?mI_FromMark_is_end ?mL_FromMark_is_end ?mC_FromMark_is_end ?mK_FromMark_is_end ?mF_FromPoints_first_state ?mI_FromPoints_first_state ?mL_FromPoints_first_state ?mC_FromPoints_first_state ?mK_FromPoints_first_state ?mF_FromPoints_is_end ?mI_FromPoints_is_end ?mL_FromPoints_is_end ?mC_FromPoints_is_end ?mK_FromPoints_is_end ?mF_Late_first_state ?mI_Late_first_state ?mL_Late_first_state ?mC_Late_first_state ?mK_Late_first_state ?mF_Late_is_end ?mI_Late_is_end ?mL_Late_is_end ?mC_Late_is_end ?mK_Late_is_end ?mF_Either_first_state ?mI_Either_first_state ?mL_Either_first_state ?mC_Either_first_state ?mK_Either_first_state ?mF_Either_is_end ?mI_Either_is_end ?mL_Either_is_end ?mC_Either_is_end ?mK_Either_is_end ?mF_Workersu_initu ?mI_Workersu_initu ?mL_Workersu_initu ?mC_Workersu_initu ?mK_Workersu_initu ?mM_Workersu_initu ?mF_Workers_first_state ?mI_Workers_first_state ?mL_Workers_first_state ?mC_Workers_first_state ?mK_Workers_first_state ?mF_Workers_steps ?mI_Workers_steps ?mL_Workers_steps ?mC_Workers_steps ?mK_Workers_steps ?mF_Workers_is_end ?mI_Workers_is_end ?mL_Workers_is_end ?mC_Workers_is_end ?mK_Workers_is_end ?mR_Rule_is_restart ?mA_Rule_is_restart ?mW_Rule_is_restart ?mP_Rule_is_restart ?mL_Rule_is_restart ?mC_Rule_is_restart ?mK_Rule_is_restart
    (case a0 => k_is)
    (case l0 => k_is)
    (case c0 => k_is)
    (case k0 => k_is)
    (case a1 => k_is)
    (case l1 => k_is)
    (case c1 => k_is)
    (case k1 => k_is)
    (case a2 => k_is)
    (case l2 => k_is)
    (case c2 => k_is)
    (case k2 => k_is)
    (case a3 => k_is)
    (case l3 => k_is)
    (case c3 => k_is)
    (case k3 => k_is)
    (case a4 => k_is)
    (case l4 => k_is)
    (case c4 => k_is)
    (case k4 => k_is)
    (case a5 => k_is)
    (case l5 => k_is)
    (case c5 => k_is)
    (case k5 => k_is)
    (case a6 => k_is)
    (case l6 => k_is)
    (case c6 => k_is)
    (case k6 => k_is)
    (case a7 => k_is)
    (case l7 => k_is)
    (case c7 => k_is)
    (case k7 => k_is)
    (case a8 => k_is)
    (case l8 => k_is)
    (case c8 => k_is)
    (case k8 => k_is)
    (case a9 => k_is)
    (case l9 => k_is)
    (case c9 => k_is)
    (case k9 => k_is)
    (case a10 => k_is)
    (case l10 => k_is)
    (case c10 => k_is)
    (case k10 => k_is)
    (case a11 => k_is)
    (case l11 => k_is)
    (case c11 => k_is)
    (case k11 => k_is)
    (case a12 => k_is)
    (case l12 => k_is)
    (case c12 => k_is)
    (case k12 => k_is)
    (case a13 => k_is)
    (case l13 => k_is)
    (case c13 => k_is)
    (case k13 => k_is)
    (case a14 => k_is)
    (case l14 => k_is)
    (case c14 => k_is)
    (case k14 => k_is)
    (case a15 => k_is)
    (case l15 => k_is)
    (case c15 => k_is)
    (case k15 => k_is)
    (case a16 => k_is)
    (case l16 => k_is)
    (case c16 => k_is)
    (case k16 => k_is)
    (case a17 => k_is)
    (case l17 => k_is)
    (case c17 => k_is)
    (case k17 => k_is)
    (case a18 => k_is)
    (case l18 => k_is)
    (case c18 => k_is)
    (case k18 => k_is)
    (case a19 => k_is)
    (case l19 => k_is)
    (case c19 => k_is)
    (case k19 => k_is)
    (case a20 => k_is)
    (case l20 => k_is)
    (case c20 => k_is)
    (case k20 => k_is)
    (case a21 => k_is)
    (case l21 => k_is)
    (case c21 => k_is)
    (case k21 => k_is)
    (case a22 => k_is)
    (case l22 => k_is)
    (case c22 => k_is)
    (case k22 => k_is)
    (case a23 => k_is)
    (case l23 => k_is)
    (case c23 => k_is)
    (case k23 => k_is)
    (case a24 => k_is)
    (case l24 => k_is)
    (case c24 => k_is)
    (case k24 => k_is)
    (case a25 => k_is)
    (case l25 => k_is)
    (case c25 => k_is)
    (case k25 => k_is)
    (case a26 => k_is)
    (case l26 => k_is)
    (case c26 => k_is)
    (case k26 => k_is)
    (case z0 => k_is)
    (case z1 => k_is)
    (case z2 => k_is)
    (case z3 => k_is)
    (case z4 => k_is)
    (case z5 => k_is)
    (case z6 => k_is)
    (case z7 => k_is)
    (case z8 => k_is)
    (case z9 => k_is)
    (case z10 => k_is)
    (case z11 => k_is)
    (case z12 => k_is)
    (case gC_Rule => k_is)
    (case gP_Rule => k_is)
    (case gH_Rule => k_is)
    (case gO_Rule => k_is)
    (case gS_Rule => k_is)
    (case gK_Rule => k_is)
    (case gC_FromTop => k_is)
    (case gP_FromTop => k_is)
    (case gH_FromTop => k_is)
    (case gO_FromTop => k_is)
    (case gS_FromTop => k_is)
    (case gK_FromTop => k_is)
    (case gC_FromMark => k_is)
    (case gP_FromMark => k_is)
    (case gH_FromMark => k_is)
    (case gO_FromMark => k_is)
    (case gS_FromMark => k_is)
    (case gK_FromMark => k_is)
    (case gC_FromPoints => k_is)
    (case gP_FromPoints => k_is)
    (case gH_FromPoints => k_is)
    (case gO_FromPoints => k_is)
    (case gS_FromPoints => k_is)
    (case gK_FromPoints => k_is)
    (case gC_Late => k_is)
    (case gP_Late => k_is)
    (case gH_Late => k_is)
    (case gO_Late => k_is)
    (case gS_Late => k_is)
    (case gK_Late => k_is)
    (case gC_Either => k_is)
    (case gP_Either => k_is)
    (case gH_Either => k_is)
    (case gO_Either => k_is)
    (case gS_Either => k_is)
    (case gK_Either => k_is)
    (case gC_Lagging => k_is)
    (case gP_Lagging => k_is)
    (case gH_Lagging => k_is)
    (case gO_Lagging => k_is)
    (case gS_Lagging => k_is)
    (case gK_Lagging => k_is)
    (case gC_Workers => k_is)
    (case gP_Workers => k_is)
    (case gH_Workers => k_is)
    (case gO_Workers => k_is)
    (case gS_Workers => k_is)
    (case gK_Workers => k_is)
    (case gM0_Rule => k_is)
    (case gI0_Rule => k_is)
    (case gM0_FromTop => k_is)
    (case gI0_FromTop => k_is)
    (case gM0_FromMark => k_is)
    (case gI0_FromMark => k_is)
    (case iA_Rule => k_is)
    (case iN_Rule => k_is)
    (case iT_Rule => k_is)
    (case iM_Rule => k_is)
    (case iA_FromTop => k_is)
    (case iN_FromTop => k_is)
    (case iT_FromTop => k_is)
    (case iM_FromTop => k_is)
    (case iA_FromMark => k_is)
    (case iN_FromMark => k_is)
    (case iT_FromMark => k_is)
    (case iM_FromMark => k_is)
    (case iA_FromPoints => k_is)
    (case iN_FromPoints => k_is)
    (case iT_FromPoints => k_is)
    (case iM_FromPoints => k_is)
    (case iA_Late => k_is)
    (case iN_Late => k_is)
    (case iT_Late => k_is)
    (case iM_Late => k_is)
    (case jI_Rule => k_is)
    (case jT_Rule => k_is)
    (case jS_Rule => k_is)
    (case jI_FromTop => k_is)
    (case jT_FromTop => k_is)
    (case jS_FromTop => k_is)
    (case jK_FromTop_Rule => k_is)
    (case jI_FromMark => k_is)
    (case jT_FromMark => k_is)
    (case jS_FromMark => k_is)
    (case jK_FromMark_Rule => k_is)
    (case jI_FromPoints => k_is)
    (case jT_FromPoints => k_is)
    (case jS_FromPoints => k_is)
    (case jK_FromPoints_Rule => k_is)
    (case jI_Late => k_is)
    (case jT_Late => k_is)
    (case jS_Late => k_is)
    (case jK_Late_Rule => k_is)
    (case jI_Either => k_is)
    (case jT_Either => k_is)
    (case jS_Either => k_is)
    (case jK_Rule_Either => k_is)
    (case jK_FromTop_Either => k_is)
    (case jK_FromMark_Either => k_is)
    (case jK_FromPoints_Either => k_is)
    (case jK_Late_Either => k_is)
    (case gN_FromPoints_points => k_is)
    (case gN_FromPoints_newest => k_is)
    (case gN_Late_lines => k_is)
    (case gN_Either_parts => k_is)
    (case gN_Lagging_age => k_is)
    (case gN_Workers_count => k_is)
    (case gV_FromTop_RESTART => k_is)
    (case gG_FromTop_RESTART => k_is)
    (case gV_FromMark_RESTART => k_is)
    (case gG_FromMark_RESTART => k_is)
    (case gV_FromPoints_RESTART => k_is)
    (case gG_FromPoints_RESTART => k_is)
    (case gV_Lagging_RESTART => k_is)
    (case gG_Lagging_RESTART => k_is)
    (case gV_Rule_SIMPLE => k_is)
    (case gG_Rule_SIMPLE => k_is)
    (case gV_FromTop_SIMPLE => k_is)
    (case gG_FromTop_SIMPLE => k_is)
    (case gV_FromMark_SIMPLE => k_is)
    (case gG_FromMark_SIMPLE => k_is)
    (case gV_FromPoints_SIMPLE => k_is)
    (case gG_FromPoints_SIMPLE => k_is)
    (case gV_Late_SIMPLE => k_is)
    (case gG_Late_SIMPLE => k_is)
    (case gV_Workers_RESTART => k_is)
    (case gG_Workers_RESTART => k_is)
    (case gR_Rule_RESTART => k_is)
    (case gA_Rule_RESTART => k_is)
    (case gW_Rule_RESTART => k_is)
    (case mF_Rule_first_state => k_is)
    (case mI_Rule_first_state => k_is)
    (case mL_Rule_first_state => k_is)
    (case mC_Rule_first_state => k_is)
    (case mK_Rule_first_state => k_is)
    (case mF_Rule_steps => k_is)
    (case mI_Rule_steps => k_is)
    (case mL_Rule_steps => k_is)
    (case mC_Rule_steps => k_is)
    (case mK_Rule_steps => k_is)
    (case mF_Rule_is_end => k_is)
    (case mI_Rule_is_end => k_is)
    (case mL_Rule_is_end => k_is)
    (case mC_Rule_is_end => k_is)
    (case mK_Rule_is_end => k_is)
    (case mF_Rule_further => k_is)
    (case mI_Rule_further => k_is)
    (case mL_Rule_further => k_is)
    (case mC_Rule_further => k_is)
    (case mK_Rule_further => k_is)
    (case mF_FromTop_steps => k_is)
    (case mI_FromTop_steps => k_is)
    (case mL_FromTop_steps => k_is)
    (case mC_FromTop_steps => k_is)
    (case mK_FromTop_steps => k_is)
    (case mF_FromTop_further => k_is)
    (case mI_FromTop_further => k_is)
    (case mL_FromTop_further => k_is)
    (case mC_FromTop_further => k_is)
    (case mK_FromTop_further => k_is)
    (case mF_FromMark_steps => k_is)
    (case mI_FromMark_steps => k_is)
    (case mL_FromMark_steps => k_is)
    (case mC_FromMark_steps => k_is)
    (case mK_FromMark_steps => k_is)
    (case mF_FromMark_further => k_is)
    (case mI_FromMark_further => k_is)
    (case mL_FromMark_further => k_is)
    (case mC_FromMark_further => k_is)
    (case mK_FromMark_further => k_is)
    (case mF_FromPointsu_initu => k_is)
    (case mI_FromPointsu_initu => k_is)
    (case mL_FromPointsu_initu => k_is)
    (case mC_FromPointsu_initu => k_is)
    (case mK_FromPointsu_initu => k_is)
    (case mM_FromPointsu_initu => k_is)
    (case kQ_FromPointsu_initu => k_is)
    (case mF_FromPoints_steps => k_is)
    (case mI_FromPoints_steps => k_is)
    (case mL_FromPoints_steps => k_is)
    (case mC_FromPoints_steps => k_is)
    (case mK_FromPoints_steps => k_is)
    (case mF_FromPoints_further => k_is)
    (case mI_FromPoints_further => k_is)
    (case mL_FromPoints_further => k_is)
    (case mC_FromPoints_further => k_is)
    (case mK_FromPoints_further => k_is)
    (case mF_Lateu_initu => k_is)
    (case mI_Lateu_initu => k_is)
    (case mL_Lateu_initu => k_is)
    (case mC_Lateu_initu => k_is)
    (case mK_Lateu_initu => k_is)
    (case mM_Lateu_initu => k_is)
    (case tD_Lateu_initu => k_is)
    (case uD_Lateu_initu => exact rfl)
    (case mF_Late_steps => k_is)
    (case mI_Late_steps => k_is)
    (case mL_Late_steps => k_is)
    (case mC_Late_steps => k_is)
    (case mK_Late_steps => k_is)
    (case mF_Late_further => k_is)
    (case mI_Late_further => k_is)
    (case mL_Late_further => k_is)
    (case mC_Late_further => k_is)
    (case mK_Late_further => k_is)
    (case mF_Eitheru_initu => k_is)
    (case mI_Eitheru_initu => k_is)
    (case mL_Eitheru_initu => k_is)
    (case mC_Eitheru_initu => k_is)
    (case mK_Eitheru_initu => k_is)
    (case mM_Eitheru_initu => k_is)
    (case mF_Either_steps => k_is)
    (case mI_Either_steps => k_is)
    (case mL_Either_steps => k_is)
    (case mC_Either_steps => k_is)
    (case mK_Either_steps => k_is)
    (case mF_Either_further => k_is)
    (case mI_Either_further => k_is)
    (case mL_Either_further => k_is)
    (case mC_Either_further => k_is)
    (case mK_Either_further => k_is)
    (case mF_Laggingu_initu => k_is)
    (case mI_Laggingu_initu => k_is)
    (case mL_Laggingu_initu => k_is)
    (case mC_Laggingu_initu => k_is)
    (case mK_Laggingu_initu => k_is)
    (case mM_Laggingu_initu => k_is)
    (case mF_Lagging_first_state => k_is)
    (case mI_Lagging_first_state => k_is)
    (case mL_Lagging_first_state => k_is)
    (case mC_Lagging_first_state => k_is)
    (case mK_Lagging_first_state => k_is)
    (case mF_Lagging_steps => k_is)
    (case mI_Lagging_steps => k_is)
    (case mL_Lagging_steps => k_is)
    (case mC_Lagging_steps => k_is)
    (case mK_Lagging_steps => k_is)
    (case mF_Lagging_is_end => k_is)
    (case mI_Lagging_is_end => k_is)
    (case mL_Lagging_is_end => k_is)
    (case mC_Lagging_is_end => k_is)
    (case mK_Lagging_is_end => k_is)
    (case mF_FromTop_first_state => k_is)
    (case mI_FromTop_first_state => k_is)
    (case mL_FromTop_first_state => k_is)
    (case mC_FromTop_first_state => k_is)
    (case mK_FromTop_first_state => k_is)
    (case mF_FromTop_is_end => k_is)
    (case mI_FromTop_is_end => k_is)
    (case mL_FromTop_is_end => k_is)
    (case mC_FromTop_is_end => k_is)
    (case mK_FromTop_is_end => k_is)
    (case mF_FromMark_first_state => k_is)
    (case mI_FromMark_first_state => k_is)
    (case mL_FromMark_first_state => k_is)
    (case mC_FromMark_first_state => k_is)
    (case mK_FromMark_first_state => k_is)
    (case mF_FromMark_is_end => k_is)
    (case mI_FromMark_is_end => k_is)
    (case mL_FromMark_is_end => k_is)
    (case mC_FromMark_is_end => k_is)
    (case mK_FromMark_is_end => k_is)
    (case mF_FromPoints_first_state => k_is)
    (case mI_FromPoints_first_state => k_is)
    (case mL_FromPoints_first_state => k_is)
    (case mC_FromPoints_first_state => k_is)
    (case mK_FromPoints_first_state => k_is)
    (case mF_FromPoints_is_end => k_is)
    (case mI_FromPoints_is_end => k_is)
    (case mL_FromPoints_is_end => k_is)
    (case mC_FromPoints_is_end => k_is)
    (case mK_FromPoints_is_end => k_is)
    (case mF_Late_first_state => k_is)
    (case mI_Late_first_state => k_is)
    (case mL_Late_first_state => k_is)
    (case mC_Late_first_state => k_is)
    (case mK_Late_first_state => k_is)
    (case mF_Late_is_end => k_is)
    (case mI_Late_is_end => k_is)
    (case mL_Late_is_end => k_is)
    (case mC_Late_is_end => k_is)
    (case mK_Late_is_end => k_is)
    (case mF_Either_first_state => k_is)
    (case mI_Either_first_state => k_is)
    (case mL_Either_first_state => k_is)
    (case mC_Either_first_state => k_is)
    (case mK_Either_first_state => k_is)
    (case mF_Either_is_end => k_is)
    (case mI_Either_is_end => k_is)
    (case mL_Either_is_end => k_is)
    (case mC_Either_is_end => k_is)
    (case mK_Either_is_end => k_is)
    (case mF_Workersu_initu => k_is)
    (case mI_Workersu_initu => k_is)
    (case mL_Workersu_initu => k_is)
    (case mC_Workersu_initu => k_is)
    (case mK_Workersu_initu => k_is)
    (case mM_Workersu_initu => k_is)
    (case mF_Workers_first_state => k_is)
    (case mI_Workers_first_state => k_is)
    (case mL_Workers_first_state => k_is)
    (case mC_Workers_first_state => k_is)
    (case mK_Workers_first_state => k_is)
    (case mF_Workers_steps => k_is)
    (case mI_Workers_steps => k_is)
    (case mL_Workers_steps => k_is)
    (case mC_Workers_steps => k_is)
    (case mK_Workers_steps => k_is)
    (case mF_Workers_is_end => k_is)
    (case mI_Workers_is_end => k_is)
    (case mL_Workers_is_end => k_is)
    (case mC_Workers_is_end => k_is)
    (case mK_Workers_is_end => k_is)
    (case mR_Rule_is_restart => k_is)
    (case mA_Rule_is_restart => k_is)
    (case mW_Rule_is_restart => k_is)
    (case mP_Rule_is_restart => k_is)
    (case mL_Rule_is_restart => k_is)
    (case mC_Rule_is_restart => k_is)
    (case mK_Rule_is_restart => k_is)
