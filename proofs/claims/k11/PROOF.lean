import PyProof.Rows.All
import Wide.All
import OpenK.AllK
import Wide.FinOn
import KE.KStateDown
import KE.GoesMore
import KE.GoesEnum
import HandS.Iter
import HandS.TupLe
import HandS.Deep
import KE.KEqSeq
import KE.KEqDeep
import HandS.ForMost
import HandS.Exc
import HandS.More
import HandS.Wide
import HandS.Property
import HandS.WideBits
import HandS.Conv
import HandS.Codes
import HandS.IsInst
import HandS.Flow
import HandS.Defaults
import HandS.EndBits
import HandS.Head0
import HandS.Head1
import HandS.Head2
import HandS.HeadEnd
import HandS.HeadHook1
import HandS.HeadHook2
import HandS.NoneIn
import HandS.TupAny
import HandS.SortRule
import HandS.DictTup
import HandS.TupLe
import HandS.Deep
import PySem.Challenge.RW_formsalike_k11_entries_in_any_order
set_option Elab.async false
set_option linter.all false
set_option maxRecDepth 100000
set_option maxHeartbeats 4000000
namespace Fa
open PySem PySem.Spec L2 SX
open PyProof.Rows (envOfC)
open C8 (Cal pe_c Mak pe_mk Met pe_mt pe_mt0 pe_gc tCut pss_cut)
def top (i : Nat) : Stmt := PySem.Challenge.pw_formsalike_k11_entries_in_any_order.main.body.getD i (.Pass ⟨0, 0, 0, 0⟩)

/-! ### readings, a step each -/
section
variable {σ : St} {H : Hp} {n b c : St → Hp → Prop} {r : VK} {Q : VK} {K : PySem.W.Frag}
theorem r_seq {t u : TS} (h : t ⟨u ⟨n, r, b, c⟩, r, b, c⟩ σ H) : tSeq t u ⟨n, r, b, c⟩ σ H := h
theorem r_asg {te : TE} {g : TG} (h : te σ H fun x H1 => g x σ H1 n) : tAsg te g ⟨n, r, b, c⟩ σ H := h
theorem r_name {i : Nat} {v : V} {R : St → Hp → Prop} (h : R (σ.set i (some v)) H) : gName i v σ H R := h
theorem r_var {i : Nat} {v : V} (e : σ[i]? = some (some v)) (h : Q v H) : tVar i σ H Q := ⟨v, e, h⟩
theorem r_c {v : V} (h : Q v H) : tC v σ H Q := h
theorem r_op {r : R2} {ta tb : TE} (h : ta σ H fun x H1 => tb σ H1 fun y H2 => r x y H2 Q) : tOp r ta tb σ H Q := h
theorem r_un {r : V → Hp → VK → Prop} {ta : TE} (h : ta σ H fun x H1 => r x H1 Q) : tUn r ta σ H Q := h
theorem r_I0 {g : Int → Int → V} {i j : Int} (h : Q (g i j) H) : rI0 g (.int i) (.int j) H Q := ⟨i, j, rfl, rfl, h⟩
theorem r_I {C : Int → Int → Prop} {g : Int → Int → V} {i j : Int} (c : C i j) (h : Q (g i j) H) : rI C g (.int i) (.int j) H Q := ⟨i, j, rfl, rfl, c, h⟩
theorem r_U {g : Int → V} {i : Int} (h : Q (g i) H) : rU g (.int i) H Q := ⟨i, rfl, h⟩
theorem r_eqI {i j : Int} (h : Q (.bl (decide (i = j))) H) : rEq (.int i) (.int j) H Q := by
  have e : decide (V.int i = V.int j) = decide (i = j) := by simp
  exact ⟨rfl, by rw [e]; exact h⟩
theorem r_neI {i j : Int} (h : Q (.bl (!decide (i = j))) H) : rNe (.int i) (.int j) H Q := by
  have e : decide (V.int i = V.int j) = decide (i = j) := by simp
  exact ⟨rfl, by rw [e]; exact h⟩
theorem r_eqS {i j : Str} (h : Q (.bl (decide (i = j))) H) : rEq (.str i) (.str j) H Q := by
  have e : decide (V.str i = V.str j) = decide (i = j) := by simp
  exact ⟨rfl, by rw [e]; exact h⟩
theorem r_neS {i j : Str} (h : Q (.bl (!decide (i = j))) H) : rNe (.str i) (.str j) H Q := by
  have e : decide (V.str i = V.str j) = decide (i = j) := by simp
  exact ⟨rfl, by rw [e]; exact h⟩
theorem r_nil {R : List V → Hp → Prop} (h : R [] H) : tNil σ H R := h
theorem r_cons {te : TE} {t : TA} {R : List V → Hp → Prop} (h : te σ H fun x H1 => t σ H1 fun xs H2 => R (x :: xs) H2) : tCons te t σ H R := h
theorem r_drop {te : TE} (h : te σ H fun _ H1 => n σ H1) : tDrop te ⟨n, r, b, c⟩ σ H := h
theorem r_ret {te : TE} (h : te σ H r) : tRet te ⟨n, r, b, c⟩ σ H := h
theorem r_retN (h : r .non H) : tRetN ⟨n, r, b, c⟩ σ H := h
theorem r_next (h : n σ H) : tNext ⟨n, r, b, c⟩ σ H := h
theorem r_brk (h : b σ H) : tBreak ⟨n, r, b, c⟩ σ H := h
theorem r_if {e : TT} {t u : TS} (h : e σ H fun k H1 => if k = true then t ⟨n, r, b, c⟩ σ H1 else u ⟨n, r, b, c⟩ σ H1) : tIfS e t u ⟨n, r, b, c⟩ σ H := h
theorem r_ifE {c : TT} {ta tb : TE} (h : c σ H fun b H1 => if b = true then ta σ H1 Q else tb σ H1 Q) : tIf c ta tb σ H Q := h
theorem r_test {te : TE} {R : Bool → Hp → Prop} (h : te σ H fun x H' => ∃ k, x = .bl k ∧ R k H') : tTest te σ H R := h
theorem r_B {te : TE} {R : Bool → Hp → Prop} (h : te σ H fun x H' => ∃ k, x = .bl k ∧ R k H') : tB te σ H R := h
theorem r_bl {b : Bool} {R : Bool → Prop} (h : R b) : ∃ k, V.bl b = .bl k ∧ R k := ⟨b, rfl, h⟩
theorem r_and {t u : TT} {R : Bool → Hp → Prop} (h : t σ H fun c H1 => if c = true then u σ H1 R else R false H1) : tAnd t u σ H R := h
theorem r_or {t u : TT} {R : Bool → Hp → Prop} (h : t σ H fun c H1 => if c = true then R true H1 else u σ H1 R) : tOr t u σ H R := h
theorem r_not {t : TT} {R : Bool → Hp → Prop} (h : t σ H fun c H1 => R (!c) H1) : tNot t σ H R := h
theorem r_andV {ta tb : TE} (h : ta σ H fun x H1 => ∃ c, x = .bl c ∧ if c = true then tb σ H1 Q else Q (.bl false) H1) : tAndV ta tb σ H Q := h
theorem r_orV {ta tb : TE} (h : ta σ H fun x H1 => ∃ c, x = .bl c ∧ if c = true then Q (.bl true) H1 else tb σ H1 Q) : tOrV ta tb σ H Q := h
theorem r_notV {ta : TE} (h : ta σ H fun x H1 => ∃ c, x = .bl c ∧ Q (.bl (!c)) H1) : tNotV ta σ H Q := h
theorem r_chain {r r' : R2} {ta tb tc : TE} (h : ta σ H fun x H1 => tb σ H1 fun y H2 => r x y H2 fun z H3 => ∃ k, z = .bl k ∧ (if k = true then tc σ H3 fun w' H4 => r' y w' H4 Q else Q (.bl false) H3)) : tChain r r' ta tb tc σ H Q := h
theorem r_tup {t : TA} (h : t σ H fun xs H1 => xs.length ≤ sizeLine ∧ ∀ p, H1 p = none → Q (.ref p) (upd H1 p (.tup xs))) : tTup t σ H Q := h
theorem r_lst {t : TA} (h : t σ H fun xs H1 => xs.length ≤ sizeLine ∧ ∀ p, H1 p = none → Q (.ref p) (upd H1 p (.lst xs))) : tLst t σ H Q := h
theorem r_call {sp : Sp} {dvs : List V} {E : XK} {t : TA} (h : t σ H fun vs H1 => sp (vs ++ dvs) H1 Q E) : tCall sp dvs E t σ H Q := h
theorem r_CB {r : List V → Hp → VK → Prop} {t : TA} (h : t σ H fun vs H1 => r vs H1 Q) : tCB r t σ H Q := h
theorem r_ixL {p : Addr} {xs : List V} {i : Int} {v : V} (hs : SqL K H p xs) (e : atI xs i = some v) (h : Q v H) : rIxL K (.ref p) (.int i) H Q := ⟨p, xs, i, v, rfl, rfl, hs, e, h⟩
theorem r_ixT {p : Addr} {xs : List V} {i : Int} {v : V} (hs : SqT K H p xs) (e : atI xs i = some v) (h : Q v H) : rIxT K (.ref p) (.int i) H Q := ⟨p, xs, i, v, rfl, rfl, hs, e, h⟩
theorem r_ite {p : Prop} [Decidable p] {A B : Prop} (h1 : p → A) (h2 : ¬ p → B) : if decide p = true then A else B := by
  by_cases c : p
  · rw [if_pos (decide_eq_true c)]
    exact h1 c
  · rw [if_neg (by simp [c])]
    exact h2 c
theorem r_iten {p : Prop} [Decidable p] {A B : Prop} (h1 : ¬ p → A) (h2 : p → B) : if (!decide p) = true then A else B := by
  by_cases c : p
  · rw [if_neg (by simp [c])]
    exact h2 c
  · rw [if_pos (by simp [c])]
    exact h1 c
theorem r_itep {p : Prop} [Decidable p] {A B : Prop} (c : p) (h : A) : if decide p = true then A else B := by
  rw [if_pos (decide_eq_true c)]
  exact h
theorem r_iteN {p : Prop} [Decidable p] {A B : Prop} (c : ¬ p) (h : B) : if decide p = true then A else B := by
  rw [if_neg (by simp [c])]
  exact h
theorem r_iteF {A B : Prop} (h : B) : if false = true then A else B := by
  rw [if_neg Bool.false_ne_true]
  exact h
theorem r_iteT {A B : Prop} (h : A) : if true = true then A else B := by
  rw [if_pos rfl]
  exact h
theorem r_iteNT {A B : Prop} (h : B) : if (!true) = true then A else B := by
  rw [if_neg (by decide)]
  exact h
theorem r_iteNF {A B : Prop} (h : A) : if (!false) = true then A else B := by
  rw [if_pos (by decide)]
  exact h
theorem r_no {p : Prop} [Decidable p] {A B : Prop} (c : p) (h : B) : if (!decide p) = true then A else B := by
  rw [if_neg (by simp [c])]
  exact h
/-- a for over a written range(m) -/
theorem r_forN {v : Int} {g : TG} {tb : TS} (m : Nat) (e : v = (m : Int)) (hn : m < 2 ^ 62) (Pv : Nat → St → Hp → Prop) (h0 : Pv 0 σ H)
    (hs : ∀ (i : Nat) σ H, i < m → Pv i σ H → g (.int (i : Int)) σ H fun σ2 H2 => tb ⟨Pv (i + 1), r, n, Pv (i + 1)⟩ σ2 H2) (hd : ∀ σ H, Pv m σ H → n σ H) : tFor (iRng1 (tCons (tC (.int v)) tNil)) g tb ⟨n, r, b, c⟩ σ H := by
  subst e
  refine ⟨(m : Int), rfl, by omega, by omega, for_range Pv h0 (fun i σ H hi p => ?_) hd⟩
  rw [Int.zero_add]
  exact hs i σ H (by omega) p
/-- a for over range(v), v in a slot -/
theorem r_forV {v : Int} {k : Nat} {g : TG} {tb : TS} (e : σ[k]? = some (some (.int v))) (h1 : -(2 ^ 62) ≤ v) (h2 : v < 2 ^ 62) (Pv : Nat → St → Hp → Prop) (h0 : Pv 0 σ H)
    (hs : ∀ (i : Nat) σ H, (i : Int) < v → Pv i σ H → g (.int (i : Int)) σ H fun σ2 H2 => tb ⟨Pv (i + 1), r, n, Pv (i + 1)⟩ σ2 H2) (hd : ∀ σ H, Pv v.toNat σ H → n σ H) : tFor (iRng1 (tCons (tVar k) tNil)) g tb ⟨n, r, b, c⟩ σ H := by
  refine ⟨_, e, v, rfl, h1, h2, for_range Pv h0 (fun i σ H hi p => ?_) hd⟩
  rw [Int.zero_add]
  exact hs i σ H (by omega) p
/-- a for over range(e), the turns behind its reading -/
theorem r_for {wi : TI} {g : TG} {tb : TS} (h : wi σ H fun J H1 => ∃ W : Nat → Nat → St → Hp → Prop, (∃ m, W 0 m σ H1) ∧ ∀ i m σ H, W i m σ H →
    (J.stop i H ∧ n σ H) ∨ (J.go i H ∧ ∃ N : St → Hp → Prop, (∀ σ' H', N σ' H' → ∃ m', m' < m ∧ W (i + 1) m' σ' H') ∧ ∀ x H', J.yld i H x H' → g x σ H' fun σ2 H2 => tb ⟨N, r, n, N⟩ σ2 H2)) : tFor wi g tb ⟨n, r, b, c⟩ σ H := h
theorem r_rng1 {ta : TA} {R : It → Hp → Prop} (h : ta σ H fun vs H1 => ∃ j : Int, vs = [.int j] ∧ -(2 ^ 62) ≤ j ∧ j < 2 ^ 62 ∧ R (Itr 0 j.toNat) H1) : iRng1 ta σ H R := h
/-- .. the turns -/
theorem r_turns {j : Int} {g : TG} {tb : TS} (h1 : -(2 ^ 62) ≤ j) (h2 : j < 2 ^ 62) (Pv : Nat → St → Hp → Prop) (h0 : Pv 0 σ H)
    (hs : ∀ (i : Nat) σ H, (i : Int) < j → Pv i σ H → g (.int (i : Int)) σ H fun σ2 H2 => tb ⟨Pv (i + 1), r, n, Pv (i + 1)⟩ σ2 H2) (hd : ∀ σ H, Pv j.toNat σ H → n σ H) :
    -(2 ^ 62) ≤ j ∧ j < 2 ^ 62 ∧ ∃ W : Nat → Nat → St → Hp → Prop, (∃ m, W 0 m σ H) ∧ ∀ i m σ H, W i m σ H →
    ((Itr 0 j.toNat).stop i H ∧ n σ H) ∨ ((Itr 0 j.toNat).go i H ∧ ∃ N : St → Hp → Prop, (∀ σ' H', N σ' H' → ∃ m', m' < m ∧ W (i + 1) m' σ' H') ∧ ∀ x H', (Itr 0 j.toNat).yld i H x H' → g x σ H' fun σ2 H2 => tb ⟨N, r, n, N⟩ σ2 H2) := by
  refine ⟨h1, h2, for_range (D := ⟨n, r, fun _ _ => False, fun _ _ => False⟩) Pv h0 (fun i σ H hi p => ?_) hd⟩
  rw [Int.zero_add]
  exact hs i σ H (by omega) p
theorem r_while {e : TT} {tb : TS} (W : Nat → St → Hp → Prop) (m : Nat) (h0 : W m σ H)
    (hs : ∀ m σ H, W m σ H → e σ H fun k H1 => if k = true then ∃ N : St → Hp → Prop, (∀ σ' H', N σ' H' → ∃ m', m' < m ∧ W m' σ' H') ∧ tb ⟨N, r, n, N⟩ σ H1 else n σ H1) : tWhile e tb ⟨n, r, b, c⟩ σ H := ⟨W, ⟨m, h0⟩, hs⟩
theorem r_turn {tb : TS} {W : Nat → St → Hp → Prop} {m : Nat} (h : tb ⟨fun σ' H' => ∃ m', m' < m ∧ W m' σ' H', r, n, fun σ' H' => ∃ m', m' < m ∧ W m' σ' H'⟩ σ H) :
    ∃ N : St → Hp → Prop, (∀ σ' H', N σ' H' → ∃ m', m' < m ∧ W m' σ' H') ∧ tb ⟨N, r, n, N⟩ σ H := ⟨_, fun _ _ h => h, h⟩
end
/-! ### promises by the number of arguments -/
def sp1 (f : V → Hp → VK → XK → Prop) : Sp := fun vs H Q E => ∃ a, vs = [a] ∧ f a H Q E
def sp2 (f : V → V → Hp → VK → XK → Prop) : Sp := fun vs H Q E => ∃ a b, vs = [a, b] ∧ f a b H Q E
def sp3 (f : V → V → V → Hp → VK → XK → Prop) : Sp := fun vs H Q E => ∃ a b c, vs = [a, b, c] ∧ f a b c H Q E
def sp4 (f : V → V → V → V → Hp → VK → XK → Prop) : Sp := fun vs H Q E => ∃ a b c d, vs = [a, b, c, d] ∧ f a b c d H Q E
def sp5 (f : V → V → V → V → V → Hp → VK → XK → Prop) : Sp := fun vs H Q E => ∃ a b c d e, vs = [a, b, c, d, e] ∧ f a b c d e H Q E
def sp6 (f : V → V → V → V → V → V → Hp → VK → XK → Prop) : Sp := fun vs H Q E => ∃ a b c d e g, vs = [a, b, c, d, e, g] ∧ f a b c d e g H Q E
theorem len5 {f} (vs : List V) (H : Hp) (Q : VK) (E : XK) (h : sp5 f vs H Q E) : vs.length = 5 := by
  obtain ⟨_, _, _, _, _, rfl, _⟩ := h
  rfl
theorem len6 {f} (vs : List V) (H : Hp) (Q : VK) (E : XK) (h : sp6 f vs H Q E) : vs.length = 6 := by
  obtain ⟨_, _, _, _, _, _, rfl, _⟩ := h
  rfl
theorem len1 {f} (vs : List V) (H : Hp) (Q : VK) (E : XK) (h : sp1 f vs H Q E) : vs.length = 1 := by
  obtain ⟨_, rfl, _⟩ := h
  rfl
theorem len2 {f} (vs : List V) (H : Hp) (Q : VK) (E : XK) (h : sp2 f vs H Q E) : vs.length = 2 := by
  obtain ⟨_, _, rfl, _⟩ := h
  rfl
theorem len3 {f} (vs : List V) (H : Hp) (Q : VK) (E : XK) (h : sp3 f vs H Q E) : vs.length = 3 := by
  obtain ⟨_, _, _, rfl, _⟩ := h
  rfl
theorem len4 {f} (vs : List V) (H : Hp) (Q : VK) (E : XK) (h : sp4 f vs H Q E) : vs.length = 4 := by
  obtain ⟨_, _, _, _, rfl, _⟩ := h
  rfl
/-- a def's promise from its body -/
theorem calD {P : Program} {w : World} {K : PySem.W.Frag} {mg : Str → Option Value} {base : Heap} {x qual : Str} {params : Arguments} {body : List Stmt} {scope : Scope} {f : Addr} {fd : FuncData} {N ps : List Str} {k : Nat} {sp : Sp}
    (F : FunD K x qual params body scope [] [] f fd) (m : mg x = some (.ref f)) (S : FnScope N ps scope)
    (hb : ∀ (kV doc pm : Value) (an : Option Addr) (cdv ct : Value) (us : List Value), us.length = ps.length → bindArgs (PySem.W.fnOf x qual params body scope .none kV doc pm an cdv ct) ⟨us, []⟩ = pure (ps.zip us))
    (len : ∀ vs H Q E, sp vs H Q E → vs.length = ps.length)
    (hbody : ∀ (cdv : Value) (A : Around) (outer : List Env) (s : Shared) (H : Hp) (vs : List V) (Q : VK) (E : XK), Room k (A.deeper (envOfC qual scope s.heap.objs.size f cdv)) → sp vs H Q E →
      ∃ t, PSs (cxOf CX0 P w K mg base N qual scope f cdv A outer s H E).nox body t ∧ t { nx := fun _ H' => Q .non H', rt := Q } (start N vs) H) : Cal P w K mg base (k + 1) x sp [] :=
  ⟨f, fd, ps, [], F.ok S len fun cdv A outer s H vs Q E hr h => by
    obtain ⟨t, h1, h2⟩ := hbody cdv A outer s H vs Q E hr h
    exact ⟨t, h1.nox, h2⟩, m, F.kp, F.bindsN hb, .nil⟩
theorem fnD {P : Program} {w : World} {K : PySem.W.Frag} {mg : Str → Option Value} {base : Heap} {x qual : Str} {params : Arguments} {body : List Stmt} {scope : Scope} {f : Addr} {fd : FuncData} {N ps : List Str} {k : Nat} {sp : Sp}
    (F : FunD K x qual params body scope [] [] f fd) (S : FnScope N ps scope) (len : ∀ vs H Q E, sp vs H Q E → vs.length = ps.length)
    (hbody : ∀ (cdv : Value) (A : Around) (outer : List Env) (s : Shared) (H : Hp) (vs : List V) (Q : VK) (E : XK), Room k (A.deeper (envOfC qual scope s.heap.objs.size f cdv)) → sp vs H Q E →
      ∃ t, PSs (cxOf CX0 P w K mg base N qual scope f cdv A outer s H E).nox body t ∧ t { nx := fun _ H' => Q .non H', rt := Q } (start N vs) H) : FnOk P w K mg base CX0 (k + 1) f fd ps sp :=
  F.ok S len fun cdv A outer s H vs Q E hr h => by
    obtain ⟨t, h1, h2⟩ := hbody cdv A outer s H vs Q E hr h
    exact ⟨t, h1.nox, h2⟩
theorem conI {K : PySem.W.Frag} {h : Heap} {mg : Str → Option Value} {x : Str} {i : Int} (X : K.In h) (G : h.Ns mainGlobals mg) (c : (He.Fa.int x i).ok K = true) : ∃ u, mg x = some u ∧ RelV (.int i) u := by
  obtain ⟨t, e⟩ := He.int_ok X G c
  exact ⟨_, e, t, rfl⟩
theorem conS {K : PySem.W.Frag} {h : Heap} {mg : Str → Option Value} {x z : Str} (X : K.In h) (G : h.Ns mainGlobals mg) (c : (He.Fa.str x z).ok K = true) : ∃ u, mg x = some u ∧ RelV (.str z) u := by
  obtain ⟨t, e⟩ := He.str_ok X G c
  exact ⟨_, e, t, rfl⟩

/-! ### more readings -/
section
variable {σ : St} {H : Hp} {n b c : St → Hp → Prop} {r : VK} {Q : VK}
theorem r_cut {t u : TS} (Mid : St → Hp → Prop) (h1 : t ⟨Mid, r, b, c⟩ σ H) (h2 : ∀ σ' H', Mid σ' H' → u ⟨n, r, b, c⟩ σ' H') : tCut t u ⟨n, r, b, c⟩ σ H := ⟨Mid, h1, h2⟩
end
section
variable {σ : St} {H : Hp} {Q : VK} {K : PySem.W.Frag}
theorem r_yes {R : Bool → Hp → Prop} (h : R true H) : tYes σ H R := h
theorem r_isi {x : V} {c d : String} {b : Bool} (t : TyX K H x (.type d)) (e : kitB d c = some b) (h : Q (.bl b) H) : rIsi K [x, .ty c] H Q := ⟨x, .ty c, .type d, .type c, b, rfl, .ty c, t, kit_ty e, h⟩
theorem r_neD {x y : V} {d e : PyData} (h1 : Dp K H x d) (h2 : Dp K H y e) (s1 : SeqAt.shaped d = true) (s2 : SeqAt.shaped e = true) (h : Q (.bl (!PyData.eqv d e)) H) : rNeD K x y H Q := ⟨d, e, h1, h2, s1, s2, h⟩
theorem r_eqD {x y : V} {d e : PyData} (h1 : Dp K H x d) (h2 : Dp K H y e) (s1 : SeqAt.shaped d = true) (s2 : SeqAt.shaped e = true) (h : Q (.bl (PyData.eqv d e)) H) : rEqD K x y H Q := ⟨d, e, h1, h2, s1, s2, h⟩
theorem eqv_same {d : PyData} (s : SeqAt.shaped d = true) : PyData.eqv d d = true := SeqAt.eqv_refl d (Bool.and_eq_true_iff.mp s).1
/-- the same data on both sides -/
theorem r_neDs {x y : V} {d : PyData} (h1 : Dp K H x d) (h2 : Dp K H y d) (s : SeqAt.shaped d = true) (h : Q (.bl false) H) : rNeD K x y H Q := r_neD h1 h2 s s (by rw [eqv_same s]; exact h)
theorem r_eqDs {x y : V} {d : PyData} (h1 : Dp K H x d) (h2 : Dp K H y d) (s : SeqAt.shaped d = true) (h : Q (.bl true) H) : rEqD K x y H Q := r_eqD h1 h2 s s (by rw [eqv_same s]; exact h)
theorem r_rfl {v : V} {B : Prop} (h : B) : v = v ∧ B := ⟨rfl, h⟩
theorem r_gtup {p : Addr} {xs : List V} {n : Nat} {t : TGs} {R : St → Hp → Prop} (hs : SqT K H p xs) (hl : xs.length = n) (h : t xs σ H R) : gTup K n t (.ref p) σ H R := ⟨p, xs, rfl, hs, hl, h⟩
theorem r_gcons {t : TG} {u : TGs} {v : V} {vs : List V} {R : St → Hp → Prop} (h : t v σ H fun σ' H' => u vs σ' H' R) : gCons t u (v :: vs) σ H R := ⟨v, vs, rfl, h⟩
theorem r_gnil {R : St → Hp → Prop} (h : R σ H) : gNil [] σ H R := ⟨rfl, h⟩
theorem r_iteC {p : Prop} [Decidable p] {a b : Int} (h : Q (.int (if p then a else b)) H) : if decide p = true then tC (.int a) σ H Q else tC (.int b) σ H Q := by
  by_cases c : p
  · rw [if_pos (decide_eq_true c)]
    rw [if_pos c] at h
    exact h
  · rw [if_neg (by simp [c])]
    rw [if_neg c] at h
    exact h
theorem r_iteJ {p : Prop} [Decidable p] {ta tb : TE} (v : V) (h1 : p → ∀ R : VK, R v H → ta σ H R) (h2 : ¬ p → ∀ R : VK, R v H → tb σ H R) (h : Q v H) : if decide p = true then ta σ H Q else tb σ H Q := by
  by_cases c : p
  · rw [if_pos (decide_eq_true c)]
    exact h1 c Q h
  · rw [if_neg (by simp [c])]
    exact h2 c Q h
theorem r_max2 {p : Addr} {x y : Int} (hs : H p = some (.lst [.int x, .int y])) (h : Q (.int (max x y)) H) : rMax K [.ref p] H Q := by
  refine ⟨p, [x, y], rfl, SqL.of hs, by show 0 < 2; decide, fun m hm hle => ?_⟩
  have h1 := hle x (by simp)
  have h2 := hle y (by simp)
  have e : m = max x y := by
    rcases List.mem_cons.mp hm with e | e
    · omega
    · rcases List.mem_cons.mp e with e | e
      · omega
      · cases e
  rw [e]
  exact h
theorem r_lam1 {x : V} {R : V → Prop} (h : R x) : ∃ i, [x] = [i] ∧ R i := ⟨x, rfl, h⟩
theorem r_abs {x : Int} {R : Int → Prop} (h : R x) : ∃ i, [V.int x] = [V.int i] ∧ R i := ⟨x, rfl, h⟩
theorem r_int1 {x : Int} {R : Int → Prop} {B : Prop} (h : R x) : (∃ i, [V.int x] = [V.int i] ∧ R i) ∨ B := .inl ⟨x, rfl, h⟩
theorem r_bm {T : String} {r : V → List V → Hp → VK → Prop} {to : TE} {t : TA} (h : to σ H fun x H1 => tyV K T x H1 ∧ t σ H1 fun xs H2 => r x xs H2 Q) : tBM K T r to t σ H Q := h
theorem r_bm0 {T : String} {r : V → List V → Hp → VK → Prop} {to : TE} (h : to σ H fun x H1 => tyV K T x H1 ∧ r x [] H1 Q) : tBM0 K T r to σ H Q := h
theorem tyL {p : Addr} {xs : List V} (h : H p = some (.lst xs)) : tyV K "list" (.ref p) H := Or.inl ⟨rfl, _, SqL.of h⟩
theorem r_app {p : Addr} {xs : List V} {y : V} (h : H p = some (.lst xs)) (hl : xs.length < sizeLine) (q : Q .non (upd H p (.lst (xs ++ [y])))) : rAppend (.ref p) [y] H Q := ⟨p, xs, y, rfl, rfl, h, hl, q⟩
theorem r_sub {to ti : TE} {t : TSet} {v : V} {R : St → Hp → Prop} (h : to σ H fun o H1 => ti σ H1 fun i H2 => t o i v H2 fun H3 => R σ H3) : gSub to ti t v σ H R := h
theorem r_setL {p : Addr} {xs : List V} {k : Int} {j : Nat} {v : V} {R : Hp → Prop} (h : H p = some (.lst xs)) (e : ixN xs.length k = some j) (q : R (upd H p (.lst (xs.set j v)))) : rSetL (.ref p) (.int k) v H R := ⟨p, xs, k, j, rfl, rfl, h, e, q⟩
theorem r_lcR {ta : TA} {g : TG} {tt : TT} {te : TE} {vs : List Nat} (n : Nat) (hn : n < 2 ^ 62)
    (h : ∀ D, H D = none → ∃ W : Nat → Nat → Hp → Prop, (∃ m, W 0 m (upd H D (.lst []))) ∧ ∀ i m H, W i m H →
      ((Itr 0 n).stop i H ∧ Q (.ref D) H) ∨ ((Itr 0 n).go i H ∧ ∃ Nx : Hp → Prop, (∀ H', Nx H' → ∃ m', m' < m ∧ W (i + 1) m' H') ∧ ∀ x H', (Itr 0 n).yld i H x H' → g x (wipe σ vs) H' fun σ2 H2 => wipe σ2 vs = wipe σ vs ∧ tt σ2 H2 fun b H3 =>
        if b = true then te σ2 H3 fun y H4 => ∃ acc, H4 D = some (.lst acc) ∧ acc.length < sizeLine ∧ Nx (upd H4 D (.lst (acc ++ [y]))) else Nx H3))
    (he : ∀ R : List V → Hp → Prop, R [.int (n : Int)] H → ta σ H R) : tLc (iRng1 ta) g tt te vs σ H Q := by
  refine he _ ⟨(n : Int), rfl, by omega, by omega, ?_⟩
  have e : ((n : Int)).toNat = n := by omega
  rw [e]
  exact h
theorem same_upd {H : Hp} {p : Addr} (h : H p = none) (o : HO) : Same H (upd H p o) := fun b u q => by
  rw [upd_ne (ne_of_none q h)]
  exact q
theorem seq_upd {p b : Addr} {xs : List V} {o : HO} (h : SqL K H b xs) (hn : b ≠ p) : SqL K (upd H p o) b xs := by
  rcases h with (h | ⟨u, h⟩) | h
  · exact .inl (.inl ((upd_ne hn).trans h))
  · exact .inl (.inr ⟨u, (upd_ne hn).trans h⟩)
  · exact .inr h
theorem atI_ints {ns : List Int} {k : Int} (h0 : 0 ≤ k) (h1 : k < (ns.length : Int)) : ∃ v, v ∈ ns ∧ atI (ns.map V.int) k = some (.int v) := by
  have hk : k.toNat < ns.length := by omega
  have ek : k = ((k.toNat : Nat) : Int) := by omega
  have q : atI (ns.map V.int) ((k.toNat : Nat) : Int) = some (.int ns[k.toNat]) := atI_nat (by rw [List.getElem?_map, List.getElem?_eq_getElem hk] <;> rfl)
  rw [← ek] at q
  exact ⟨ns[k.toNat], List.getElem_mem hk, q⟩
end

/-! ### what the program's top leaves, looked at: its defs by their addresses, facts, written data; the statics too -/
abbrev Frg := PySem.W.Frag
/-- the getter of a property of a class -/
def prAd (C f : Str) (K : Frg) : Addr := match PySem.W.recIn K (He.ma K (He.ga K C) f) "property" with
  | some (.ref g :: _) => g
  | _ => 0
def glAd (x : Str) (K : Frg) : Addr := He.ga K x
def meAd (C m : Str) (K : Frg) : Addr := He.ma K (He.ga K C) m
structure DefM where
  ad : Frg → Addr
  nm : Str
  ql : Str
  pa : Arguments
  bo : List Stmt
  sc : Scope
  df : List He.Dv := []
def seeM (K : Frg) (d : DefM) : He.FnW := match K.lookup (d.ad K) with
  | some ⟨_, _, .func u, _⟩ => some (u.name, u.qualname, u.params, u.body, u.scope, u.globals, u.closure, u.builtins)
  | _ => none
def dueM (d : DefM) : He.FnW := some (d.nm, d.ql, d.pa, .stmts d.bo, d.sc, mainGlobals, [], builtinsNs)
def okM (K : Frg) (d : DefM) : Bool := PySem.W.keepIn K (.ref (d.ad K)) && (match K.lookup (d.ad K) with
  | some ⟨_, _, .func u, _⟩ => PySem.W.codeIn K u.code d.ql && He.dflB K u.defaults (d.df.map (He.Dv.v K))
  | _ => false)
theorem both {a b : Bool} (h : (a && b) = true) : a = true ∧ b = true := Bool.and_eq_true_iff.mp h
theorem funM {K : Frg} {d : DefM} (e : seeM K d = dueM d) (c : okM K d = true) : ∃ fd, FunD K d.nm d.ql d.pa d.bo d.sc (d.df.map (He.Dv.v K)) [] (d.ad K) fd := by
  have kp := (both c).1
  have c2 := (both c).2
  unfold seeM dueM at e
  split at c2
  · rename_i x1 x2 u x3 hL
    rw [hL] at e
    obtain ⟨n1, n2, n3, n4, n5, n6, n7, n8, n9, n10, n11, n12, n13, n14, n15⟩ := u
    simp only [Option.some.injEq, Prod.mk.injEq] at e
    obtain ⟨h1, h2, h3, h4, h5, h6, h7, h8⟩ := e
    subst h1 h2 h3 h4 h5 h6 h7 h8
    have k := both c2
    exact ⟨_, ⟨x1, x2, n8, n9, n10, n11, n12, n13, n14, x3, rfl, hL, k.1, He.dflB_ok k.2, .inl rfl⟩, kp⟩
  · cases c2
/-- written data: none, truths, integers, texts, lists and tuples of them -/
def datB (K : Frg) : Nat → Value → PyData → Bool
  | 0, _, _ => false
  | n + 1, u, d => match u, d with
    | .none, .none => true
    | .bool b, .bool c => b == c
    | .int i _, .int j => decide (i = j)
    | .str x _, .str y => decide (x = y)
    | .ref a, .tuple ds => (match K.lookup a with
      | some ⟨.type c, _, .seq its _, _⟩ => decide (c = "tuple") && (decide (its.size ≤ sizeLine) && datAll (fun u d => datB K n u d) its.toList ds)
      | _ => false)
    | _, _ => false
where datAll (f : Value → PyData → Bool) : List Value → List PyData → Bool
  | [], [] => true
  | u :: us, d :: ds => f u d && datAll f us ds
  | _, _ => false
theorem datAll_ok {K : Frg} {f : Value → PyData → Bool} (hf : ∀ u d, f u d = true → ∃ x, RelV x u ∧ ∀ H, Dp K H x d) : ∀ (us : List Value) (ds : List PyData), datB.datAll f us ds = true → ∃ xs, Vals xs us ∧ ∀ H, DpAll K H xs ds
  | [], [], _ => ⟨[], .nil, fun _ => .nil⟩
  | u :: us, d :: ds, h => by
    unfold datB.datAll at h
    obtain ⟨x, r, k⟩ := hf u d (both h).1
    obtain ⟨xs, rs, ks⟩ := datAll_ok hf us ds (both h).2
    exact ⟨x :: xs, .cons r rs, fun H => .cons (k H) (ks H)⟩
  | [], _ :: _, h => by cases h
  | _ :: _, [], h => by cases h
theorem datB_ok {K : Frg} : ∀ (n : Nat) (u : Value) (d : PyData), datB K n u d = true → ∃ x, RelV x u ∧ ∀ H, Dp K H x d
  | 0, _, _, h => by cases h
  | n + 1, u, d, h => by
    unfold datB at h
    match u, d, h with
    | .none, .none, _ => exact ⟨.non, rfl, fun _ => .non⟩
    | .bool b, .bool c, h =>
      have e : b = c := eq_of_beq h
      subst e
      exact ⟨.bl b, rfl, fun _ => .bl b⟩
    | .int i t, .int j, h =>
      have e : i = j := of_decide_eq_true h
      subst e
      exact ⟨.int i, ⟨t, rfl⟩, fun _ => .int i⟩
    | .str x t, .str y, h =>
      have e : x = y := of_decide_eq_true h
      subst e
      exact ⟨.str x, ⟨t, rfl⟩, fun _ => .str x⟩
    | .ref a, .tuple ds, h =>
      have h' : (match K.lookup a with
        | some ⟨.type c, _, .seq its _, _⟩ => decide (c = "tuple") && (decide (its.size ≤ sizeLine) && datB.datAll (fun u d => datB K n u d) its.toList ds)
        | _ => false) = true := h
      split at h'
      · rename_i c x2 its m x3 hL
        have h1 := (both h').1
        have h2 := (both (both h').2).1
        obtain ⟨xs, rs, ks⟩ := datAll_ok (datB_ok n) its.toList ds (both (both h').2).2
        exact ⟨.ref a, rfl, fun H => .tup (.inr ⟨_, its, m, hL, congrArg Value.type (of_decide_eq_true h1), rfl, of_decide_eq_true h2, rs⟩) (ks H)⟩
      · cases h'
/-- a name of the module that stands for such data -/
def conB (K : Frg) (x : Str) (d : PyData) : Bool := match PySem.W.nsIn K mainGlobals x with
  | some (some u) => datB K 8 u d
  | _ => false
theorem conM {K : Frg} {h : Heap} {mg : Str → Option Value} {x : Str} {d : PyData} (X : K.In h) (G : h.Ns mainGlobals mg) (c : conB K x d = true) : ∃ v u, mg x = some u ∧ RelV v u ∧ ∀ H, Dp K H v d := by
  unfold conB at c
  split at c
  · rename_i u hL
    obtain ⟨v, r, k⟩ := datB_ok 8 u d c
    exact ⟨v, u, PySem.W.mg_of X G hL, r, k⟩
  · cases c
/-- a property of a class -/
def prB (K : Frg) (C f : Str) : Bool := He.eqO (PySem.W.findIn K (.ref (He.ga K C)) f) (some (some (.ref (He.ma K (He.ga K C) f)))) &&
  (He.eqO (PySem.W.specialIn K (.ref (He.ma K (He.ga K C) f)) "__get__") (some (some (.builtin "property.__get__"))) && (decide (PySem.W.takesIn K (.ref (He.ma K (He.ga K C) f)) = some true) &&
  (match PySem.W.recIn K (He.ma K (He.ga K C) f) "property" with
    | some (.ref _ :: _) => true
    | _ => false)))
theorem prM {K : Frg} {C f : Str} (h : prB K C f = true) : PropOf K (He.ga K C) f (He.ma K (He.ga K C) f) (prAd C f K) := by
  obtain ⟨h1, h⟩ := both h
  obtain ⟨h2, h⟩ := both h
  obtain ⟨h3, h4⟩ := both h
  refine ⟨He.eqO_ok h1, He.eqO_ok h2, of_decide_eq_true h3, ?_⟩
  unfold prAd
  split at h4
  · rename_i g r hL
    rw [hL]
    exact ⟨r, rfl⟩
  · cases h4
/-- no limit of digits is set -/
def digB (K : Frg) : Bool := He.eqO (PySem.W.nsIn K cStatics "sys.int_max_str_digits") (some none)
/-! the Hook -/
abbrev AlM : Type := Bool × List He.FnW
def frM (n : Nat) (g : Addr → Option Obj) : Frg := He.frG g (cStatics :: He.asD g n)
def obsM (fa : List He.Fa) (ex : Frg → Bool) (fn : List DefM) (K : Frg) : AlM := ((fa.all fun x => x.ok K) && (ex K && fn.all fun d => okM K d), fn.map fun d => seeM K d)
def valM (fn : List DefM) : AlM := (true, fn.map dueM)
def SaysM (fa : List He.Fa) (ex : Frg → Bool) (fn : List DefM) (K : Frg) : Prop := obsM fa ex fn K = valM fn
def hookM (n : Nat) (fa : List He.Fa) (ex : Frg → Bool) (fn : List DefM) : PySem.W.Hook where
  α := AlM
  obs := fun s => obsM fa ex fn (frM n s.heap.get?)
  val := fun _ => valM fn
  says := fun _ h => ∃ K : Frg, K.In h ∧ SaysM fa ex fn K
  of := fun _ _ e => ⟨_, He.frG_in, e⟩
  keeps := fun _ _ _ ⟨K, hK, c⟩ k => ⟨K, PySem.W.Frag.In.keeps hK k, c⟩
theorem obsM_eq {n : Nat} {fa : List He.Fa} {ex : Frg → Bool} {fn : List DefM} {g : Addr → Option Obj} {s : Shared} (h : ∀ a, g a = s.heap.get? a) : obsM fa ex fn (frM n g) = (hookM n fa ex fn).obs s := by
  have e : g = s.heap.get? := funext h
  subst e
  rfl
section
variable {fa : List He.Fa} {ex : Frg → Bool} {fn : List DefM} {K : Frg}
theorem SaysM.fact (c : SaysM fa ex fn K) (i : Nat) {x : He.Fa} (h : fa[i]? = some x) : x.ok K = true :=
  List.all_eq_true.mp (both (congrArg Prod.fst c : ((fa.all fun x => x.ok K) && (ex K && fn.all fun d => okM K d)) = true)).1 x (List.mem_of_getElem? h)
theorem SaysM.more (c : SaysM fa ex fn K) : ex K = true := (both (both (congrArg Prod.fst c : ((fa.all fun x => x.ok K) && (ex K && fn.all fun d => okM K d)) = true)).2).1
theorem SaysM.def_ (c : SaysM fa ex fn K) (i : Nat) {d : DefM} (h : fn[i]? = some d) : ∃ fd, FunD K d.nm d.ql d.pa d.bo d.sc (d.df.map (He.Dv.v K)) [] (d.ad K) fd := by
  have c2 := (both (both (congrArg Prod.fst c : ((fa.all fun x => x.ok K) && (ex K && fn.all fun d => okM K d)) = true)).2).2
  have e2 : (fn.map fun d => seeM K d)[i]? = (fn.map dueM)[i]? := congrArg (fun z : AlM => z.2[i]?) c
  simp only [List.getElem?_map, h, Option.map_some, Option.some.injEq] at e2
  exact funM e2 (List.all_eq_true.mp c2 d (List.mem_of_getElem? h))
end

/-! ### own classes: made, their fields and methods -/
theorem lk_hit (k : Str) (v : V) (r : List (Str × V)) : List.lookup k ((k, v) :: r) = some v := by simp [List.lookup]
theorem lk_miss {k a : Str} {v : V} {r : List (Str × V)} (h : (a == k) = false) : List.lookup a ((k, v) :: r) = List.lookup a r := by
  show (match a == k with
    | true => some v
    | false => List.lookup a r) = _
  rw [h]
theorem pf_nil (k : Str) (v : V) : putF k v [] = [(k, v)] := rfl
theorem pf_hit (k : Str) (v x : V) (r : List (Str × V)) : putF k v ((k, x) :: r) = (k, v) :: r := if_pos rfl
theorem pf_miss {k g : Str} {v x : V} {r : List (Str × V)} (h : ¬ g = k) : putF k v ((g, x) :: r) = (g, x) :: putF k v r := if_neg h
section
variable {X : Cx} {k j : Nat} {C : Addr} {x m : Str} {sp : Sp} {dvs : List V} {p pos apos : Pos} {e o : Expr} {es : List Expr} {ta : TE} {t : TA}
theorem pe_mk0 (c : Mak X.prog X.w X.K X.mg X.base k x C sp dvs) (hr : Room j X.A) (hk : k + 1 ≤ j) (hg : Gl X x) (hdb : (x == ("__debug__" : Str)) = false := by decide) : PE X (.Call (.Name x p) [] [] pos) (tMake C sp dvs C8.E0 tNil) := by
  obtain ⟨_, _, _, _, M, F, hm, b, d⟩ := c.ex
  exact pe_make0 M F (hr.mono hk) hg hm b d pass0 hdb
/-- a property of the class at C -/
structure Prp (P : Program) (w : World) (K : Frg) (mg : Str → Option Value) (base : Heap) (k : Nat) (C : Addr) (f : Str) (sp : Sp) : Prop where
  ex : ∃ (q g : Addr) (fd : FuncData) (ps : List Str), Cls K C ∧ PropOf K C f q g ∧ FnOk P w K mg base CX0 k g fd ps sp ∧ Binds K fd ps []
theorem pe_pr {f : Str} (c : Prp X.prog X.w X.K X.mg X.base k C f sp) (hr : Room j X.A) (hk : k + 1 ≤ j) (he : PE X o ta) (hab : attributeBase o f X.env (eval o X.env) = eval o X.env := by rfl) : PE X (.Attribute o f pos) (tProp C sp [] C8.E0 ta) := by
  obtain ⟨_, _, _, _, cl, q, F, b⟩ := c.ex
  exact pe_prop he cl q F (hr.mono hk) b .nil pass0 hab
end
section
variable {P : Program} {w : World} {K : Frg} {mg : Str → Option Value} {base : Heap} {x qual : Str} {params : Arguments} {body : List Stmt} {scope : Scope} {f : Addr} {fd : FuncData} {N ps : List Str} {k : Nat} {sp : Sp} {C : Addr}
theorem metD (F : FunD K x qual params body scope [] [] f fd) (cl : Cls K C) (me : Meth K C x f) (S : FnScope N ps scope)
    (hb : ∀ (kV doc pm : Value) (an : Option Addr) (cdv ct : Value) (us : List Value), us.length = ps.length → bindArgs (PySem.W.fnOf x qual params body scope .none kV doc pm an cdv ct) ⟨us, []⟩ = pure (ps.zip us))
    (len : ∀ vs H Q E, sp vs H Q E → vs.length = ps.length)
    (hbody : ∀ (cdv : Value) (A : Around) (outer : List Env) (s : Shared) (H : Hp) (vs : List V) (Q : VK) (E : XK), Room k (A.deeper (envOfC qual scope s.heap.objs.size f cdv)) → sp vs H Q E →
      ∃ t, PSs (cxOf CX0 P w K mg base N qual scope f cdv A outer s H E).nox body t ∧ t { nx := fun _ H' => Q .non H', rt := Q } (start N vs) H) : Met P w K mg base (k + 1) C x sp [] :=
  ⟨f, fd, ps, [], cl, me, fnD F S len hbody, F.bindsN hb, .nil⟩
theorem makD {y : Str} (F : FunD K x qual params body scope [] [] f fd) (M : Mk K C f) (m : mg y = some (.ref C)) (S : FnScope N ps scope)
    (hb : ∀ (kV doc pm : Value) (an : Option Addr) (cdv ct : Value) (us : List Value), us.length = ps.length → bindArgs (PySem.W.fnOf x qual params body scope .none kV doc pm an cdv ct) ⟨us, []⟩ = pure (ps.zip us))
    (len : ∀ vs H Q E, sp vs H Q E → vs.length = ps.length)
    (hbody : ∀ (cdv : Value) (A : Around) (outer : List Env) (s : Shared) (H : Hp) (vs : List V) (Q : VK) (E : XK), Room k (A.deeper (envOfC qual scope s.heap.objs.size f cdv)) → sp vs H Q E →
      ∃ t, PSs (cxOf CX0 P w K mg base N qual scope f cdv A outer s H E).nox body t ∧ t { nx := fun _ H' => Q .non H', rt := Q } (start N vs) H) : Mak P w K mg base (k + 1) y C sp [] :=
  ⟨f, fd, ps, [], M, fnD F S len hbody, m, F.bindsN hb, .nil⟩
theorem prpD {y : Str} {q : Addr} (F : FunD K x qual params body scope [] [] f fd) (cl : Cls K C) (pr : PropOf K C y q f) (S : FnScope N ps scope)
    (hb : ∀ (kV doc pm : Value) (an : Option Addr) (cdv ct : Value) (us : List Value), us.length = ps.length → bindArgs (PySem.W.fnOf x qual params body scope .none kV doc pm an cdv ct) ⟨us, []⟩ = pure (ps.zip us))
    (len : ∀ vs H Q E, sp vs H Q E → vs.length = ps.length)
    (hbody : ∀ (cdv : Value) (A : Around) (outer : List Env) (s : Shared) (H : Hp) (vs : List V) (Q : VK) (E : XK), Room k (A.deeper (envOfC qual scope s.heap.objs.size f cdv)) → sp vs H Q E →
      ∃ t, PSs (cxOf CX0 P w K mg base N qual scope f cdv A outer s H E).nox body t ∧ t { nx := fun _ H' => Q .non H', rt := Q } (start N vs) H) : Prp P w K mg base (k + 1) C y sp :=
  ⟨q, f, fd, ps, cl, pr, fnD F S len hbody, F.bindsN hb⟩
end
section
variable {σ : St} {H : Hp} {n b c : St → Hp → Prop} {r : VK} {Q : VK} {K : Frg} {a C dx : Addr} {fs : List (Str × V)} {f : Str} {v : V}
theorem r_fld {te : TE} (h : te σ H fun x H1 => ∃ a C dx fs v, x = .ref a ∧ H1 a = some (.ins C dx fs) ∧ Cls K C ∧ NoAttr K C f ∧ fs.lookup f = some v ∧ Q v H1) : tFld K te f σ H Q := h
theorem r_fget {R : V → Prop} (h : H a = some (.ins C dx fs)) (cl : Cls K C) (na : NoAttr K C f) (l : fs.lookup f = some v) (q : R v) :
    ∃ a' C dx fs v, V.ref a = .ref a' ∧ H a' = some (.ins C dx fs) ∧ Cls K C ∧ NoAttr K C f ∧ fs.lookup f = some v ∧ R v := ⟨a, C, dx, fs, v, rfl, h, cl, na, l, q⟩
theorem r_sfld {ta tv : TE} (h : tv σ H fun y H1 => ta σ H1 fun x H2 => ∃ a C dx fs, x = .ref a ∧ H2 a = some (.ins C dx fs) ∧ Cls K C ∧ NoAttr K C f ∧ fs.length < 1000 ∧ n σ (upd H2 a (.ins C dx (putF f y fs)))) : sFld K ta tv f ⟨n, r, b, c⟩ σ H := h
theorem r_fset {R : Hp → Prop} {fs' : List (Str × V)} (h : H a = some (.ins C dx fs)) (cl : Cls K C) (na : NoAttr K C f) (hl : fs.length < 1000) (e : putF f v fs = fs') (q : R (upd H a (.ins C dx fs'))) :
    ∃ a' C dx fs, V.ref a = .ref a' ∧ H a' = some (.ins C dx fs) ∧ Cls K C ∧ NoAttr K C f ∧ fs.length < 1000 ∧ R (upd H a' (.ins C dx (putF f v fs))) := ⟨a, C, dx, fs, rfl, h, cl, na, hl, by rw [e]; exact q⟩
theorem r_meth {m : Str} {sp : Sp} {dvs : List V} {E : XK} {ta : TE} {t : TA} (h : ta σ H fun x H1 => ∃ a dx fs, x = .ref a ∧ H1 a = some (.ins C dx fs) ∧ fs.lookup m = none ∧ t σ H1 fun vs H2 => sp (x :: (vs ++ dvs)) H2 Q E) : tMeth C m sp dvs E ta t σ H Q := h
theorem r_mget {m : Str} {R : Prop} (h : H a = some (.ins C dx fs)) (l : fs.lookup m = none) (q : R) : ∃ a' dx fs, V.ref a = .ref a' ∧ H a' = some (.ins C dx fs) ∧ fs.lookup m = none ∧ R := ⟨a, dx, fs, rfl, h, l, q⟩
theorem r_prop {sp : Sp} {dvs : List V} {E : XK} {ta : TE} (h : ta σ H fun x H1 => ∃ a dx fs, x = .ref a ∧ H1 a = some (.ins C dx fs) ∧ sp (.ref a :: dvs) H1 Q E) : tProp C sp dvs E ta σ H Q := h
theorem r_pget {R : Addr → Prop} (h : H a = some (.ins C dx fs)) (q : R a) : ∃ a' dx fs, V.ref a = .ref a' ∧ H a' = some (.ins C dx fs) ∧ R a' := ⟨a, dx, fs, rfl, h, q⟩
theorem r_make {sp : Sp} {dvs : List V} {E : XK} {t : TA} (h : t σ H fun vs H1 => ∀ x dx, H1 x = none → H1 dx = none → dx ≠ x → sp (.ref x :: (vs ++ dvs)) (upd (upd H1 dx (.own x)) x (.ins C dx [])) (fun v H2 => v = .non ∧ Q (.ref x) H2) E) : tMake C sp dvs E t σ H Q := h
end

/-! ### loops over rows -/
section
variable {X : Cx} {tg iter : Expr}
/-- one of two ways to come by an iterator -/
theorem pi_or {u v : TI} (h1 : PI X tg iter u) (h2 : PI X tg iter v) : PI X tg iter (fun σ H R => u σ H R ∨ v σ H R) := by
  refine ⟨fun pins s σ H R I h => ?_⟩
  rcases h with h | h
  · exact h1.run pins s σ H R I h
  · exact h2.run pins s σ H R I h
end
set_option maxHeartbeats 8000000 in
theorem meets_enum1 {v : Value} {o : Obj} {G : Heap → Prop} (B : Begins v o G) :
    Meets (Builtin.«enumerate.__new__» ⟨[.type "enumerate", v], []⟩) (fun _ R s => G s.heap ∧
      R (.ok (.ret (.ref (s.heap.push o).objs.size))) { s with heap := (s.heap.push o).push { cls := .type "enumerate", data := .fields #[.none, .bool false, .ref s.heap.objs.size, rawInt 0, .none, .none] } }) :=
  .of_wp fun prog w A R s h => by
    obtain ⟨hp, g, d, tk, os⟩ := s
    obtain ⟨h1, h⟩ := h
    have hsub := sub_enumerate
    have q1 : ∀ {A' : Around} {E : Value → Shared → Prop} {Q : Value → Shared → Prop}, Q (.ref hp.objs.size) ⟨hp.push o, g, d, tk, os⟩ → wpAny (model prog w) A' (pyIter v) Q E ⟨hp, g, d, tk, os⟩ :=
      fun q => B.iter prog w _ _ ⟨hp, g, d, tk, os⟩ _ h1 q
    wp_walk using q1
    refine wpAny_stack_any fun st => wpAny_pure ?_
    split
    · rename_i c _ _ _ _ _
      cases (c == Value.type "enumerate")
      · wp_walk using q1
        exact ⟨_, rfl, h⟩
      · wp_walk using q1
        exact ⟨_, rfl, h⟩
    · wp_walk using q1
      exact ⟨_, rfl, h⟩
theorem call_enum1 {prog : Program} {w : World} {A : Around} {E : Value → Shared → Prop} {s : Shared} {v : Value} {o : Obj} {G : Heap → Prop} {Q : Value → Shared → Prop} (B : Begins v o G) (h1 : G s.heap)
    (h : ∀ h', IsEnum h' (s.heap.objs.size + 1) s.heap.objs.size 0 .none → h'.get? s.heap.objs.size = some o → h'.objs.size = s.heap.objs.size + 2 →
      (∀ b o, s.heap.get? b = some o → h'.get? b = some o) → Q (.ref (s.heap.objs.size + 1)) { s with heap := h' }) : wpAny (model prog w) A (call (.type "enumerate") [v]) Q E s := by
  refine callType_new F.called_enumerate (by decide) (F.typeCall_enumerate_1 _) (F.newCall_enumerate_1 _) (fun obj => F.args_object_init_2 obj _) F.entry_enumerate_new (meets_enum1 B) ⟨h1, ?_⟩
  have hz : (s.heap.push o).objs.size = s.heap.objs.size + 1 := Heap.size_push ..
  show _ ∧ _
  rw [hz]
  have he := Heap.get?_push_size (s.heap.push o) (o := { cls := .type "enumerate", data := .fields #[.none, .bool false, .ref s.heap.objs.size, rawInt 0, .none, .none] }) rfl
  rw [hz] at he
  exact ⟨⟨_, he, rfl⟩, h _ he (Heap.get?_push_of_some _ (Heap.get?_push_size _ B.free)) (by rw [Heap.size_push, hz]) fun b o x => Heap.get?_push_of_some _ (Heap.get?_push_of_some _ x)⟩
/-- the tuple at a, each item in a new pair -/
def Itet (K : PySem.W.Frag) (a : Addr) (xs : List V) : It :=
  ⟨fun i H => SqT K H a xs ∧ i < xs.length, fun i H v H' => ∃ T x, v = .ref T ∧ H T = none ∧ H' = upd H T (.tup [.int (i : Nat), x]) ∧ xs[i]? = some x, fun i H => SqT K H a xs ∧ xs.length ≤ i⟩
theorem turn_enumT {P : Program} {w : World} {K : PySem.W.Frag} {elts : List Expr} {kk : Nat} {tpos : Pos} (a e it : Addr) (xs : List V) (hta : a ≠ it) :
    Turn P w K (.Tuple elts kk tpos) (Itet K a xs) [e, it] e (fun i h => (∃ old, IsEnum h e it ((i : Nat) : Int) old) ∧ h.IsTupleIter it a i ∧ e ≠ it ∧ i ≤ xs.length) where
  mem := by simp
  obj := fun i h st b hb => by
    obtain ⟨⟨old, he⟩, ⟨o, ho, hc, hd⟩, _⟩ := st
    have e' : b = e ∨ b = it := by simpa using hb
    rcases e' with z | z
    · rw [z]
      exact ⟨_, he, fun v q => nomatch q⟩
    · rw [z]
      exact ⟨o, ho, fun v q => by rw [hd] at q; cases q⟩
  keep := fun i h h' st k => let ⟨⟨old, he⟩, hi, hne, hn⟩ := st; ⟨⟨old, k e (by simp) _ he⟩, hi.at fun o q => k it (by simp) o q, hne, hn⟩
  item := by
    intro X hP hw hK hc i pins s σ H E I hf st hg
    subst hP hw hK
    obtain ⟨⟨old, he⟩, hit, hne, hn⟩ := st
    obtain ⟨hq, hlt⟩ := hg
    obtain ⟨its, rv, p, hz⟩ := I.tuple hq
    have p' : s.heap.IsTuple a its.toArray := p
    have hl := rv.length
    have hel : e < s.heap.objs.size := Heap.lt_size he
    have hil : it < s.heap.objs.size := by
      obtain ⟨_, q, _⟩ := hit
      exact Heap.lt_size q
    have hea : e ≠ a := fun q => by
      obtain ⟨o, ho, hc', _⟩ := p'
      rw [← q, he] at ho
      cases ho
      have z : Value.type "enumerate" = Value.type "tuple" := hc'
      injection z with z
      exact absurd z (by decide)
    have D := Draws.tuple (prog := X.prog) (w := X.w) (A := X.A.in1) (I.ok.hd hc) it a hta its.toArray
    refine wpAny_pyNext_enum_itemD D he ⟨hit, p'⟩ (by simpa [← hl] using hlt) hne (by simp [hne, hea]) fun u h' tk hu ho hs' hT hsz hk => ?_
    obtain ⟨x, hx, ru⟩ : ∃ x, xs[i]? = some x ∧ RelV x u := by
      obtain ⟨u', hu', r'⟩ := rv.get (List.getElem?_eq_getElem hlt)
      have e1 : its[i]? = some u := by simpa using hu
      rw [e1] at hu'
      cases hu'
      exact ⟨_, List.getElem?_eq_getElem hlt, r'⟩
    refine ⟨_, rfl, wpAny_letOwnedTupleGo_enum (s := { s with heap := h', toks := tk + 1 }) ho fun h'' he' sb => ?_⟩
    have hT2 : h''.get? s.heap.objs.size = some { cls := .type "tuple", data := .seq #[.int i tk, u] } := (sb.2 _ (Nat.ne_of_gt hel)).trans hT
    have new : ObjOk X.prog X.w (upd H s.heap.objs.size (.tup [.int (i : Nat), x])) h'' s.heap.objs.size (.tup [.int (i : Nat), x]) :=
      ⟨by show 2 ≤ sizeLine; decide, [.int i tk, u], .cons ⟨_, rfl⟩ (.cons ru .nil), ⟨_, hT2, rfl, _, rfl⟩⟩
    have I1 : Inv X pins σ (upd H s.heap.objs.size (.tup [.int (i : Nat), x])) { s with heap := h'', toks := tk + 1 } :=
      I.turnedNew (ch := [e, it]) (fun b ob hb q => (sb.2 b (fun z => hb (by simp [z]))).trans (hk b ob (fun z => hb (by simp [z])) (fun z => hb (by simp [z])) q)) hf (Nat.le_refl _) new
    refine ⟨.ref s.heap.objs.size, _, I1, rfl, ⟨_, x, rfl, I.hok.fresh (Nat.le_refl _), rfl, hx⟩, ⟨⟨u, ?_⟩, hs'.1.at fun o q => (sb.2 it (Ne.symm hne)).trans q, hne, hlt⟩, fun b hb => ?_⟩
    · have e1 : ((i + 1 : Nat) : Int) = (i : Int) + 1 := by omega
      rw [e1]
      exact he'
    · have hb' : b < s.heap.objs.size := by
        have e' : b = e ∨ b = it := by simpa using hb
        rcases e' with z | z
        · rw [z]
          exact hel
        · rw [z]
          exact hil
      rw [upd_ne (Nat.ne_of_lt hb')]
      exact (hf b hb).1
  done := by
    intro X hP hw hK hc i pins s σ H E I hf st hg
    subst hP hw hK
    obtain ⟨⟨old, he⟩, hit, hne, hn⟩ := st
    obtain ⟨hq, hx⟩ := hg
    obtain ⟨its, rv, p, hz⟩ := I.tuple hq
    have p' : s.heap.IsTuple a its.toArray := p
    obtain ⟨f0, f1, f2, f3, f4, f5⟩ := hf it (by simp)
    have hl := rv.length
    have hi : i = its.toArray.size := by
      simp
      omega
    subst hi
    have D := Draws.tuple (prog := X.prog) (w := X.w) (A := X.A.in1) (I.ok.hd hc) it a hta its.toArray
    exact wpAny_pyNext_enum_endD D he ⟨hit, p'⟩ fun h' eb => ⟨rfl, I.turned (t' := s.toks) (fun b o hb q => eb b o hb q) f0 f1 f3 f4 f5⟩
  self := fun A i s Q E st h => let ⟨⟨_, he⟩, _⟩ := st; wpAny_pyIter_enum he h
def iEnumT (K : PySem.W.Frag) (ta : TA) : TI := fun σ H R => ta σ H fun vs H1 => ∃ a xs, vs = [.ref a] ∧ SqT K H1 a xs ∧ R (Itet K a xs) H1
theorem pi_enumT {X : Cx} {e : Expr} {ta : TA} {p pos tpos : Pos} {elts : List Expr} {kk : Nat} (hg : Gl X "enumerate") (hm : X.mg "enumerate" = none) (ha : PA X [e] ta) (hs : starEach [e] X.env = [(false, eval e X.env)] := by rfl) :
    PI X (.Tuple elts kk tpos) (.Call (.Name "enumerate" p) [e] [] pos) (iEnumT X.K ta) := by
  refine ⟨fun pins s σ H R I h => ?_⟩
  refine PyProof.Rows.Call_ (ld_blt I hg hm PyProof.Rows.boot_enumerate (PyProof.Rows.callWith_type1 (thn (ha.run pos pins s σ H _ I h) fun us s1 ⟨vs, H1, I1, r1, q1⟩ => ?_) hs rfl))
  obtain ⟨a, xs, ex, hq, q⟩ := q1
  subst ex
  cases r1 with
  | cons r rr =>
    cases rr
    cases r
    obtain ⟨its, rv, p', hz⟩ := I1.tuple hq
    have p2 : s1.heap.IsTuple a its.toArray := p'
    refine call_enum1 (begins_tuple a its.toArray) p2 fun h' he hit hsz hk => wpAny_pyIter_enum he ?_
    have I2 : Inv X pins σ H1 { s1 with heap := h' } := I1.kept (t' := s1.toks) hk
    have hal : a < s1.heap.objs.size := by
      obtain ⟨_, q, _⟩ := p2
      exact Heap.lt_size q
    refine ⟨s1.heap.objs.size + 1, [s1.heap.objs.size + 1, s1.heap.objs.size], _, _, H1, rfl, I2, turn_enumT a (s1.heap.objs.size + 1) s1.heap.objs.size xs (Nat.ne_of_lt hal), ⟨⟨.none, he⟩, ⟨_, hit, rfl, rfl⟩, Nat.succ_ne_self _, Nat.zero_le _⟩, fun b hb => ?_, q⟩
    have e' : b = s1.heap.objs.size + 1 ∨ b = s1.heap.objs.size := by simpa using hb
    have hle : s1.heap.objs.size ≤ b := by
      rcases e' with z | z
      · rw [z]
        exact Nat.le_add_right _ _
      · rw [z]
        exact Nat.le_refl _
    exact I1.fpOk hle (I1.hok.fresh hle)
/-! ### the turns of such loops -/
section
variable {σ : St} {H : Hp} {n b c : St → Hp → Prop} {r : VK} {Q : VK} {K : PySem.W.Frag}
theorem r_each {J : It} {g : TG} {tb : TS} (N : Nat) (Pv : Nat → St → Hp → Prop) (h0 : Pv 0 σ H)
    (hs : ∀ (i : Nat) σ H, i < N → Pv i σ H → J.go i H ∧ ∀ x H', J.yld i H x H' → g x σ H' fun σ2 H2 => tb ⟨Pv (i + 1), r, n, Pv (i + 1)⟩ σ2 H2) (hd : ∀ σ H, Pv N σ H → J.stop N H ∧ n σ H) :
    ∃ W : Nat → Nat → St → Hp → Prop, (∃ m, W 0 m σ H) ∧ ∀ i m σ H, W i m σ H →
    (J.stop i H ∧ n σ H) ∨ (J.go i H ∧ ∃ N : St → Hp → Prop, (∀ σ' H', N σ' H' → ∃ m', m' < m ∧ W (i + 1) m' σ' H') ∧ ∀ x H', J.yld i H x H' → g x σ H' fun σ2 H2 => tb ⟨N, r, n, N⟩ σ2 H2) := by
  refine ⟨fun i m σ H => i ≤ N ∧ m = N - i ∧ Pv i σ H, ⟨N, Nat.zero_le _, rfl, h0⟩, fun i m σ H ⟨hi, hm, hp⟩ => ?_⟩
  by_cases c : i < N
  · obtain ⟨h1, h2⟩ := hs i σ H c hp
    exact .inr ⟨h1, Pv (i + 1), fun σ' H' q => ⟨N - (i + 1), by omega, c, rfl, q⟩, h2⟩
  · have e : i = N := by omega
    subst e
    exact .inl (hd σ H hp)
/-- a for over a list -/
theorem r_eachL {g : TG} {tb : TS} {a : Addr} {xs : List V} (Pv : Nat → St → Hp → Prop) (h0 : Pv 0 σ H) (hl : ∀ i σ H, Pv i σ H → SqL K H a xs)
    (hs : ∀ (i : Nat) x σ H, xs[i]? = some x → Pv i σ H → g x σ H fun σ2 H2 => tb ⟨Pv (i + 1), r, n, Pv (i + 1)⟩ σ2 H2) (hd : ∀ σ H, Pv xs.length σ H → n σ H) :
    ∃ W : Nat → Nat → St → Hp → Prop, (∃ m, W 0 m σ H) ∧ ∀ i m σ H, W i m σ H →
    ((Itl K a).stop i H ∧ n σ H) ∨ ((Itl K a).go i H ∧ ∃ N : St → Hp → Prop, (∀ σ' H', N σ' H' → ∃ m', m' < m ∧ W (i + 1) m' σ' H') ∧ ∀ x H', (Itl K a).yld i H x H' → g x σ H' fun σ2 H2 => tb ⟨N, r, n, N⟩ σ2 H2) := by
  refine r_each xs.length Pv h0 (fun i σ H hi p => ⟨⟨xs, xs[i], hl i σ H p, List.getElem?_eq_getElem hi⟩, ?_⟩) fun σ H p => ⟨⟨xs, hl _ σ H p, Nat.le_refl _⟩, hd σ H p⟩
  rintro x _ ⟨rfl, e⟩
  exact hs i x σ _ (e xs (hl i σ _ p)) p
/-- .. a tuple -/
theorem r_eachT {g : TG} {tb : TS} {a : Addr} {xs : List V} (Pv : Nat → St → Hp → Prop) (h0 : Pv 0 σ H) (hl : ∀ i σ H, Pv i σ H → SqT K H a xs)
    (hs : ∀ (i : Nat) x σ H, xs[i]? = some x → Pv i σ H → g x σ H fun σ2 H2 => tb ⟨Pv (i + 1), r, n, Pv (i + 1)⟩ σ2 H2) (hd : ∀ σ H, Pv xs.length σ H → n σ H) :
    ∃ W : Nat → Nat → St → Hp → Prop, (∃ m, W 0 m σ H) ∧ ∀ i m σ H, W i m σ H →
    ((Itt K a).stop i H ∧ n σ H) ∨ ((Itt K a).go i H ∧ ∃ N : St → Hp → Prop, (∀ σ' H', N σ' H' → ∃ m', m' < m ∧ W (i + 1) m' σ' H') ∧ ∀ x H', (Itt K a).yld i H x H' → g x σ H' fun σ2 H2 => tb ⟨N, r, n, N⟩ σ2 H2) := by
  refine r_each xs.length Pv h0 (fun i σ H hi p => ⟨⟨xs, xs[i], hl i σ H p, List.getElem?_eq_getElem hi⟩, ?_⟩) fun σ H p => ⟨⟨xs, hl _ σ H p, Nat.le_refl _⟩, hd σ H p⟩
  rintro x _ ⟨rfl, e⟩
  exact hs i x σ _ (e xs (hl i σ _ p)) p
/-- .. with the numbers of the turns -/
theorem r_eachE {g : TG} {tb : TS} {a : Addr} {xs : List V} (Pv : Nat → St → Hp → Prop) (h0 : Pv 0 σ H) (hl : ∀ i σ H, Pv i σ H → SqL K H a xs)
    (hs : ∀ (i : Nat) x σ H T, xs[i]? = some x → Pv i σ H → H T = none → g (.ref T) σ (upd H T (.tup [.int (i : Nat), x])) fun σ2 H2 => tb ⟨Pv (i + 1), r, n, Pv (i + 1)⟩ σ2 H2) (hd : ∀ σ H, Pv xs.length σ H → n σ H) :
    ∃ W : Nat → Nat → St → Hp → Prop, (∃ m, W 0 m σ H) ∧ ∀ i m σ H, W i m σ H →
    ((Ite K a).stop i H ∧ n σ H) ∨ ((Ite K a).go i H ∧ ∃ N : St → Hp → Prop, (∀ σ' H', N σ' H' → ∃ m', m' < m ∧ W (i + 1) m' σ' H') ∧ ∀ x H', (Ite K a).yld i H x H' → g x σ H' fun σ2 H2 => tb ⟨N, r, n, N⟩ σ2 H2) := by
  refine r_each xs.length Pv h0 (fun i σ H hi p => ⟨⟨xs, xs[i], hl i σ H p, List.getElem?_eq_getElem hi⟩, ?_⟩) fun σ H p => ⟨⟨xs, hl _ σ H p, Nat.le_refl _⟩, hd σ H p⟩
  rintro _ _ ⟨T, x, rfl, hT, rfl, e⟩
  exact hs i x σ _ T (e xs (hl i σ _ p)) p hT
theorem r_eachET {g : TG} {tb : TS} {a : Addr} {xs : List V} (Pv : Nat → St → Hp → Prop) (h0 : Pv 0 σ H) (hl : ∀ i σ H, Pv i σ H → SqT K H a xs)
    (hs : ∀ (i : Nat) x σ H T, xs[i]? = some x → Pv i σ H → H T = none → g (.ref T) σ (upd H T (.tup [.int (i : Nat), x])) fun σ2 H2 => tb ⟨Pv (i + 1), r, n, Pv (i + 1)⟩ σ2 H2) (hd : ∀ σ H, Pv xs.length σ H → n σ H) :
    ∃ W : Nat → Nat → St → Hp → Prop, (∃ m, W 0 m σ H) ∧ ∀ i m σ H, W i m σ H →
    ((Itet K a xs).stop i H ∧ n σ H) ∨ ((Itet K a xs).go i H ∧ ∃ N : St → Hp → Prop, (∀ σ' H', N σ' H' → ∃ m', m' < m ∧ W (i + 1) m' σ' H') ∧ ∀ x H', (Itet K a xs).yld i H x H' → g x σ H' fun σ2 H2 => tb ⟨N, r, n, N⟩ σ2 H2) := by
  refine r_each xs.length Pv h0 (fun i σ H hi p => ⟨⟨hl i σ H p, hi⟩, ?_⟩) fun σ H p => ⟨⟨hl _ σ H p, Nat.le_refl _⟩, hd σ H p⟩
  rintro _ _ ⟨T, x, rfl, hT, rfl, e⟩
  exact hs i x σ _ T e p hT
/-- .. of range(i, j, c) -/
theorem r_eachR {g : TG} {tb : TS} {i0 j0 c0 : Int} (k : Nat) (hc : RgC i0 j0 c0 k) (Pv : Nat → St → Hp → Prop) (h0 : Pv 0 σ H)
    (hs : ∀ (i : Nat) σ H, i < k → Pv i σ H → g (.int (i0 + i * c0)) σ H fun σ2 H2 => tb ⟨Pv (i + 1), r, n, Pv (i + 1)⟩ σ2 H2) (hd : ∀ σ H, Pv k σ H → n σ H) :
    RgC i0 j0 c0 k ∧ ∃ W : Nat → Nat → St → Hp → Prop, (∃ m, W 0 m σ H) ∧ ∀ i m σ H, W i m σ H →
    ((Itc i0 c0 k).stop i H ∧ n σ H) ∨ ((Itc i0 c0 k).go i H ∧ ∃ N : St → Hp → Prop, (∀ σ' H', N σ' H' → ∃ m', m' < m ∧ W (i + 1) m' σ' H') ∧ ∀ x H', (Itc i0 c0 k).yld i H x H' → g x σ H' fun σ2 H2 => tb ⟨N, r, n, N⟩ σ2 H2) := by
  refine ⟨hc, r_each k Pv h0 (fun i σ H hi p => ⟨hi, ?_⟩) fun σ H p => ⟨Nat.le_refl _, hd σ H p⟩⟩
  rintro _ _ ⟨rfl, rfl⟩
  exact hs i σ _ hi p
theorem r_rng2 {ta : TA} {R : It → Hp → Prop} (h : ta σ H fun vs H1 => ∃ i j : Int, vs = [.int i, .int j] ∧ (-(2 ^ 62) ≤ i ∧ i < 2 ^ 62 ∧ -(2 ^ 62) ≤ j ∧ j < 2 ^ 62) ∧ R (Itr i (j - i).toNat) H1) : iRng2 ta σ H R := h
theorem r_rng3 {ta : TA} {R : It → Hp → Prop} (h : ta σ H fun vs H1 => ∃ (i j c : Int) (n : Nat), vs = [.int i, .int j, .int c] ∧ RgC i j c n ∧ R (Itc i c n) H1) : iRng3 ta σ H R := h
theorem r_itL {tl : TE} {R : It → Hp → Prop} (h : tl σ H fun x H1 => ∃ a, x = .ref a ∧ (∃ xs, SqL K H1 a xs) ∧ R (Itl K a) H1) : iList K tl σ H R := h
theorem r_itT {tl : TE} {R : It → Hp → Prop} (h : tl σ H fun x H1 => ∃ a, x = .ref a ∧ (∃ xs, SqT K H1 a xs) ∧ R (Itt K a) H1) : iTup K tl σ H R := h
theorem r_itE {ta : TA} {R : It → Hp → Prop} (h : ta σ H fun vs H1 => ∃ a xs, vs = [.ref a] ∧ SqL K H1 a xs ∧ R (Ite K a) H1) : iEnum K ta σ H R := h
theorem r_itET {ta : TA} {R : It → Hp → Prop} (h : ta σ H fun vs H1 => ∃ a xs, vs = [.ref a] ∧ SqT K H1 a xs ∧ R (Itet K a xs) H1) : iEnumT K ta σ H R := h
theorem r_eqB {i j : Bool} (h : Q (.bl (decide (i = j))) H) : rEq (.bl i) (.bl j) H Q := by
  have e : decide (V.bl i = V.bl j) = decide (i = j) := by simp
  exact ⟨rfl, by rw [e]; exact h⟩
theorem r_neB {i j : Bool} (h : Q (.bl (!decide (i = j))) H) : rNe (.bl i) (.bl j) H Q := by
  have e : decide (V.bl i = V.bl j) = decide (i = j) := by simp
  exact ⟨rfl, by rw [e]; exact h⟩
end
/-- an if whose test is known -/
theorem r_ifB {σ : St} {H : Hp} {D : Ends} {tt : TT} {t u : TS} (b : Bool) (ht : ∀ R : Bool → Hp → Prop, R b H → tt σ H R) (h : if b = true then t D σ H else u D σ H) : tIfS tt t u D σ H := ht _ h

/-! ### an attribute as a target among others -/
section
variable {X : Cx} {o : Expr} {ta : TE} {f : Str} {pos : Pos}
def gFld (K : PySem.W.Frag) (ta : TE) (f : Str) : TG := fun v σ H R => ta σ H fun x H1 => ∃ a C dx fs, x = .ref a ∧ H1 a = some (.ins C dx fs) ∧ Cls K C ∧ NoAttr K C f ∧ fs.length < 1000 ∧ R σ (upd H1 a (.ins C dx (putF f v fs)))
theorem pg_fld (ha : PE X o ta) : PG X (.Attribute o f pos) (gFld X.K ta f) := by
  refine ⟨fun pins s σ H v u Q I r h => ?_⟩
  rw [assign_Attribute]
  refine wpAny_bind (wpAny_holding (thn (ha.run pins s σ H _ I h) fun ov s2 ⟨x, H2, I2, rx, a, C, dx, fs, ex, ea, c, n, l, q2⟩ => ?_))
  subst ex
  obtain rfl : ov = Value.ref a := rx
  refine wpAny_bind (wpAny_standAt (wpAny_bind (wpAny_holding ?_)))
  exact setattr_ok I2 ea c n l r fun s3 I3 => wpAny_release ⟨σ, _, I3, q2⟩
end

local macro_rules | `(tactic| walk_at "rv") => `(tactic| ((with_reducible apply r_var); (· rfl)))
local macro_rules | `(tactic| walk_at "rd1") => `(tactic| first
  | (with_reducible refine r_seq ?_)
  | (with_reducible refine r_asg ?_)
  | (with_reducible refine r_name ?_)
  | ((with_reducible apply r_var); (· rfl))
  | (with_reducible refine r_c ?_)
  | (with_reducible refine r_op ?_)
  | (with_reducible refine r_I0 ?_)
  | (with_reducible refine r_eqI ?_)
  | (with_reducible refine r_neI ?_)
  | (with_reducible refine r_eqS ?_)
  | (with_reducible refine r_neS ?_)
  | (with_reducible refine r_cons ?_)
  | (with_reducible refine r_nil ?_)
  | (with_reducible refine r_if ?_)
  | (with_reducible refine r_test ?_)
  | (with_reducible refine r_B ?_)
  | (with_reducible refine r_bl ?_)
  | (with_reducible refine r_ret ?_)
  | (with_reducible refine r_drop ?_)
  | (with_reducible refine r_un ?_)
  | (with_reducible refine r_U ?_)
  | (with_reducible refine r_CB ?_)
  | (with_reducible refine r_call ?_)
  | (with_reducible refine r_retN ?_)
  | (with_reducible refine r_next ?_)
  | (with_reducible refine r_brk ?_)
  | (with_reducible refine r_ifE ?_)
  | (with_reducible refine r_and ?_)
  | (with_reducible refine r_or ?_)
  | (with_reducible refine r_not ?_)
  | (with_reducible refine r_andV ?_)
  | (with_reducible refine r_orV ?_)
  | (with_reducible refine r_notV ?_)
  | (with_reducible refine r_chain ?_)
  | (with_reducible refine r_iteF ?_)
  | (with_reducible refine r_iteT ?_)
  | (with_reducible refine r_iteNT ?_)
  | (with_reducible refine r_iteNF ?_)
  | ((with_reducible apply r_I); (· first | decide | exact ⟨by decide, by decide⟩ | exact .inr ⟨by decide, by decide⟩ | exact .inl ⟨by decide, by decide⟩ | exact ⟨by decide, by decide, by decide⟩))
  | (with_reducible refine r_bm ?_)
  | (with_reducible refine r_bm0 ?_)
  | (with_reducible refine r_sub ?_)
  | (with_reducible refine r_yes ?_)
  | (with_reducible refine r_fld ?_)
  | (with_reducible refine r_sfld ?_)
  | (with_reducible refine r_meth ?_)
  | (with_reducible refine r_prop ?_)
  | (with_reducible refine r_make ?_)
  | (with_reducible refine r_gcons ?_)
  | (with_reducible refine r_gnil ?_)
  | (with_reducible refine r_rfl ?_)
  | (with_reducible refine r_for ?_)
  | (with_reducible refine r_rng1 ?_)
  | (with_reducible refine r_int1 ?_)
  | (with_reducible refine r_abs ?_)
  | (with_reducible refine r_tup ?_)
  | (with_reducible refine r_lst ?_))
local macro_rules | `(tactic| walk_at "rd") => `(tactic| repeat (walk_at "rd1"))
local macro_rules | `(tactic| walk_at "ri1") => `(tactic| first
  | (with_reducible refine r_seq ?_)
  | (with_reducible refine r_asg ?_)
  | (with_reducible refine r_name ?_)
  | ((with_reducible apply r_var); (· rfl))
  | (with_reducible refine r_c ?_)
  | (with_reducible refine r_op ?_)
  | (with_reducible refine r_I0 ?_)
  | (with_reducible refine r_eqI ?_)
  | (with_reducible refine r_neI ?_)
  | (with_reducible refine r_eqS ?_)
  | (with_reducible refine r_neS ?_)
  | (with_reducible refine r_cons ?_)
  | (with_reducible refine r_nil ?_)
  | (with_reducible refine r_test ?_)
  | (with_reducible refine r_B ?_)
  | (with_reducible refine r_bl ?_)
  | (with_reducible refine r_ret ?_)
  | (with_reducible refine r_drop ?_)
  | (with_reducible refine r_un ?_)
  | (with_reducible refine r_U ?_)
  | (with_reducible refine r_CB ?_)
  | (with_reducible refine r_call ?_)
  | (with_reducible refine r_retN ?_)
  | (with_reducible refine r_next ?_)
  | (with_reducible refine r_brk ?_)
  | (with_reducible refine r_ifE ?_)
  | (with_reducible refine r_and ?_)
  | (with_reducible refine r_or ?_)
  | (with_reducible refine r_not ?_)
  | (with_reducible refine r_andV ?_)
  | (with_reducible refine r_orV ?_)
  | (with_reducible refine r_notV ?_)
  | (with_reducible refine r_chain ?_)
  | (with_reducible refine r_iteF ?_)
  | (with_reducible refine r_iteT ?_)
  | (with_reducible refine r_iteNT ?_)
  | (with_reducible refine r_iteNF ?_)
  | ((with_reducible apply r_I); (· first | decide | exact ⟨by decide, by decide⟩ | exact .inr ⟨by decide, by decide⟩ | exact .inl ⟨by decide, by decide⟩ | exact ⟨by decide, by decide, by decide⟩))
  | (with_reducible refine r_bm ?_)
  | (with_reducible refine r_bm0 ?_)
  | (with_reducible refine r_sub ?_)
  | (with_reducible refine r_yes ?_)
  | (with_reducible refine r_fld ?_)
  | (with_reducible refine r_sfld ?_)
  | (with_reducible refine r_meth ?_)
  | (with_reducible refine r_prop ?_)
  | (with_reducible refine r_make ?_)
  | (with_reducible refine r_gcons ?_)
  | (with_reducible refine r_gnil ?_)
  | (with_reducible refine r_rfl ?_)
  | (with_reducible refine r_for ?_)
  | (with_reducible refine r_rng1 ?_)
  | (with_reducible refine r_int1 ?_)
  | (with_reducible refine r_abs ?_)
  | (with_reducible refine r_tup ?_)
  | (with_reducible refine r_lst ?_))
local macro_rules | `(tactic| walk_at "ri") => `(tactic| repeat (walk_at "ri1"))

abbrev C_Frame (K : Frg) : Addr := He.ga K "Frame"
abbrev C_Builder (K : Frg) : Addr := He.ga K "Builder"
structure Nm (K : Frg) (mg : Str → Option Value) : Prop where
  tuple : mg "tuple" = none
  sorted : mg "sorted" = none
  len : mg "len" = none
  abs : mg "abs" = none
  range : mg "range" = none
  int : mg "int" = none
  max : mg "max" = none
  cl_Frame : Cls K (C_Frame K)
  g_Frame : mg "Frame" = some (.ref (C_Frame K))
  mk_Frame : Mk K (C_Frame K) (meAd "Frame" "__init__" K)
  na_Frame_kind : NoAttr K (C_Frame K) "kind"
  na_Frame_key : NoAttr K (C_Frame K) "key"
  na_Frame_inside : NoAttr K (C_Frame K) "inside"
  me_Frame_put : Meth K (C_Frame K) "put" (meAd "Frame" "put" K)
  me_Frame_built : Meth K (C_Frame K) "built" (meAd "Frame" "built" K)
  cl_Builder : Cls K (C_Builder K)
  g_Builder : mg "Builder" = some (.ref (C_Builder K))
  mk_Builder : Mk K (C_Builder K) (meAd "Builder" "__init__" K)
  na_Builder_is_done : NoAttr K (C_Builder K) "is_done"
  na_Builder_value : NoAttr K (C_Builder K) "value"
  na_Builder__frames : NoAttr K (C_Builder K) "_frames"
  me_Builder_take : Meth K (C_Builder K) "take" (meAd "Builder" "take" K)
  me_Builder__put : Meth K (C_Builder K) "_put" (meAd "Builder" "_put" K)
  dig : PySem.W.nsIn K cStatics "sys.int_max_str_digits" = some none
def fs_Frame (x0 x1 x2 : V) : List (Str × V) := [("kind", x0), ("key", x1), ("inside", x2)]
theorem lk_Frame_kind {x0 x1 x2 : V} : (fs_Frame x0 x1 x2).lookup ("kind" : Str) = some x0 := by
  unfold fs_Frame
  rw [lk_hit]
theorem pt_Frame_kind {x0 x1 x2 y : V} : putF "kind" y (fs_Frame x0 x1 x2) = fs_Frame y x1 x2 := by
  unfold fs_Frame
  rw [pf_hit]
theorem in_Frame_kind {x0 : V} : putF "kind" x0 ([] : List (Str × V)) = ([("kind", x0)] : List (Str × V)) := by
  rw [pf_nil]
theorem lk_Frame_key {x0 x1 x2 : V} : (fs_Frame x0 x1 x2).lookup ("key" : Str) = some x1 := by
  unfold fs_Frame
  rw [lk_miss (by decide +kernel), lk_hit]
theorem pt_Frame_key {x0 x1 x2 y : V} : putF "key" y (fs_Frame x0 x1 x2) = fs_Frame x0 y x2 := by
  unfold fs_Frame
  rw [pf_miss (by decide +kernel), pf_hit]
theorem in_Frame_key {x0 x1 : V} : putF "key" x1 ([("kind", x0)] : List (Str × V)) = ([("kind", x0), ("key", x1)] : List (Str × V)) := by
  rw [pf_miss (by decide +kernel), pf_nil]
theorem lk_Frame_inside {x0 x1 x2 : V} : (fs_Frame x0 x1 x2).lookup ("inside" : Str) = some x2 := by
  unfold fs_Frame
  rw [lk_miss (by decide +kernel), lk_miss (by decide +kernel), lk_hit]
theorem pt_Frame_inside {x0 x1 x2 y : V} : putF "inside" y (fs_Frame x0 x1 x2) = fs_Frame x0 x1 y := by
  unfold fs_Frame
  rw [pf_miss (by decide +kernel), pf_miss (by decide +kernel), pf_hit]
theorem in_Frame_inside {x0 x1 x2 : V} : putF "inside" x2 ([("kind", x0), ("key", x1)] : List (Str × V)) = ([("kind", x0), ("key", x1), ("inside", x2)] : List (Str × V)) := by
  rw [pf_miss (by decide +kernel), pf_miss (by decide +kernel), pf_nil]
theorem no_Frame_put {x0 x1 x2 : V} : (fs_Frame x0 x1 x2).lookup ("put" : Str) = none := by
  unfold fs_Frame
  rw [lk_miss (by decide +kernel), lk_miss (by decide +kernel), lk_miss (by decide +kernel)] <;> rfl
theorem no_Frame_built {x0 x1 x2 : V} : (fs_Frame x0 x1 x2).lookup ("built" : Str) = none := by
  unfold fs_Frame
  rw [lk_miss (by decide +kernel), lk_miss (by decide +kernel), lk_miss (by decide +kernel)] <;> rfl
theorem few_Frame {x0 x1 x2 : V} : (fs_Frame x0 x1 x2).length < 1000 := by
  show 3 < 1000
  decide
def fs_Builder (x0 x1 x2 : V) : List (Str × V) := [("is_done", x0), ("value", x1), ("_frames", x2)]
theorem lk_Builder_is_done {x0 x1 x2 : V} : (fs_Builder x0 x1 x2).lookup ("is_done" : Str) = some x0 := by
  unfold fs_Builder
  rw [lk_hit]
theorem pt_Builder_is_done {x0 x1 x2 y : V} : putF "is_done" y (fs_Builder x0 x1 x2) = fs_Builder y x1 x2 := by
  unfold fs_Builder
  rw [pf_hit]
theorem in_Builder_is_done {x0 : V} : putF "is_done" x0 ([] : List (Str × V)) = ([("is_done", x0)] : List (Str × V)) := by
  rw [pf_nil]
theorem lk_Builder_value {x0 x1 x2 : V} : (fs_Builder x0 x1 x2).lookup ("value" : Str) = some x1 := by
  unfold fs_Builder
  rw [lk_miss (by decide +kernel), lk_hit]
theorem pt_Builder_value {x0 x1 x2 y : V} : putF "value" y (fs_Builder x0 x1 x2) = fs_Builder x0 y x2 := by
  unfold fs_Builder
  rw [pf_miss (by decide +kernel), pf_hit]
theorem in_Builder_value {x0 x1 : V} : putF "value" x1 ([("is_done", x0)] : List (Str × V)) = ([("is_done", x0), ("value", x1)] : List (Str × V)) := by
  rw [pf_miss (by decide +kernel), pf_nil]
theorem lk_Builder__frames {x0 x1 x2 : V} : (fs_Builder x0 x1 x2).lookup ("_frames" : Str) = some x2 := by
  unfold fs_Builder
  rw [lk_miss (by decide +kernel), lk_miss (by decide +kernel), lk_hit]
theorem pt_Builder__frames {x0 x1 x2 y : V} : putF "_frames" y (fs_Builder x0 x1 x2) = fs_Builder x0 x1 y := by
  unfold fs_Builder
  rw [pf_miss (by decide +kernel), pf_miss (by decide +kernel), pf_hit]
theorem in_Builder__frames {x0 x1 x2 : V} : putF "_frames" x2 ([("is_done", x0), ("value", x1)] : List (Str × V)) = ([("is_done", x0), ("value", x1), ("_frames", x2)] : List (Str × V)) := by
  rw [pf_miss (by decide +kernel), pf_miss (by decide +kernel), pf_nil]
theorem no_Builder_take {x0 x1 x2 : V} : (fs_Builder x0 x1 x2).lookup ("take" : Str) = none := by
  unfold fs_Builder
  rw [lk_miss (by decide +kernel), lk_miss (by decide +kernel), lk_miss (by decide +kernel)] <;> rfl
theorem no_Builder__put {x0 x1 x2 : V} : (fs_Builder x0 x1 x2).lookup ("_put" : Str) = none := by
  unfold fs_Builder
  rw [lk_miss (by decide +kernel), lk_miss (by decide +kernel), lk_miss (by decide +kernel)] <;> rfl
theorem few_Builder {x0 x1 x2 : V} : (fs_Builder x0 x1 x2).length < 1000 := by
  show 3 < 1000
  decide

/-! ### numbers by powers of ten -/
theorem pow_bits {b : Int} (hb : b.natAbs < 16) (c : Nat) : (b ^ c).natAbs < 2 ^ (4 * c + 1) := by
  rw [Int.natAbs_pow]
  have h1 : b.natAbs ^ c ≤ 16 ^ c := Nat.pow_le_pow_left (by omega) c
  have h2 : (16 : Nat) ^ c = 2 ^ (4 * c) := by
    rw [Nat.pow_mul]
  have h3 : (2 : Nat) ^ (4 * c) < 2 ^ (4 * c + 1) := Nat.pow_lt_pow_right (by decide) (by omega)
  omega
theorem bits10 (n : Nat) : (10 : Int) ^ n < 2 ^ (4 * n + 1) := by
  have h := pow_bits (b := 10) (by decide) n
  have e : ((10 : Int) ^ n).natAbs = 10 ^ n := by rw [Int.natAbs_pow]; rfl
  rw [e] at h
  have h2 : ((10 ^ n : Nat) : Int) < ((2 ^ (4 * n + 1) : Nat) : Int) := Int.ofNat_lt.mpr h
  rw [Int.natCast_pow, Int.natCast_pow] at h2
  exact h2
theorem abs10 {x : Int} {n : Nat} (h : x.natAbs < 10 ^ n) : x.natAbs < 2 ^ (4 * n + 1) := by
  have h1 := pow_bits (b := 10) (by decide) n
  have e : ((10 : Int) ^ n).natAbs = 10 ^ n := by rw [Int.natAbs_pow]; rfl
  rw [e] at h1
  omega
theorem abs_mul10 {x y : Int} {a b : Nat} (h1 : x.natAbs < 10 ^ a) (h2 : y.natAbs < 10 ^ b) : (x * y).natAbs < 10 ^ (a + b) := by
  rw [Int.natAbs_mul, Nat.pow_add]
  exact Nat.mul_lt_mul'' h1 h2
theorem natAbs10 (n : Nat) : ((10 : Int) ^ n).natAbs = 10 ^ n := by rw [Int.natAbs_pow]; rfl
theorem pow10_le {a b : Nat} (h : a ≤ b) : (10 : Nat) ^ a ≤ 10 ^ b := Nat.pow_le_pow_right (by decide) h
def sp_law (K : PySem.W.Frag) : Sp := sp1 fun a H Q _ => ∃ (sl : Addr) (ns : List Int), a = .ref sl ∧ SqL K H sl (ns.map V.int) ∧ ∀ H', Q (.bl true) H'

/-! ### the law's state: a list of drawn numbers, its place, and the script; every draw is any number below its bound -/
structure SC where
  a : Addr
  nl : Addr
  sl : Addr
  nums : List Int
  ns : List Int
structure LS (K : PySem.W.Frag) (S : SC) (H : Hp) : Prop where
  st : ∃ k l f : Int, H S.a = some (.lst [.ref S.nl, .int k, .int l, .ref S.sl, .int f])
  nm : H S.nl = some (.lst (S.nums.map V.int))
  len : S.nums.length = 120
  ne : S.nl ≠ S.a
  scr : SqL K H S.sl (S.ns.map V.int)
/-- all but the state's own list stays -/
def Keep (S : SC) (H H' : Hp) : Prop := ∀ b o, b ≠ S.a → H b = some o → H' b = some o
theorem Keep.refl (S : SC) (H : Hp) : Keep S H H := fun _ _ _ h => h
theorem Keep.trans {S : SC} {H H1 H2 : Hp} (a : Keep S H H1) (b : Keep S H1 H2) : Keep S H H2 := fun c o n h => b c o n (a c o n h)
theorem Keep.of {S : SC} {H H' : Hp} (h : Same H H') : Keep S H H' := fun b o _ q => h b o q
section
variable {K : PySem.W.Frag} {S : SC} {H H' : Hp}
theorem LS.same (L : LS K S H) (h : Same H H') : LS K S H' := by
  obtain ⟨⟨k, l, f, e⟩, h2, h3, h4, h5⟩ := L
  exact ⟨⟨k, l, f, h _ _ e⟩, h _ _ h2, h3, h4, h.seq h5⟩
theorem LS.new (L : LS K S H) {p : Addr} (h : H p = none) (o : HO) : LS K S (upd H p o) := L.same (same_upd h o)
theorem LS.put (L : LS K S H) (k l f : Int) : LS K S (upd H S.a (.lst [.ref S.nl, .int k, .int l, .ref S.sl, .int f])) := by
  obtain ⟨⟨k', l', f', e⟩, h2, h3, h4, h5⟩ := L
  refine ⟨⟨k, l, f, upd_same⟩, (upd_ne h4).trans h2, h3, h4, ?_⟩
  rcases h5 with (h | ⟨o, h⟩) | h
  · refine .inl (.inl ((upd_ne fun q => ?_).trans h))
    rw [q, e] at h
    injection h with h
    injection h with h
    cases hn : S.ns with
    | nil =>
      rw [hn] at h
      cases h
    | cons x r =>
      rw [hn] at h
      cases h
  · refine .inl (.inr ⟨o, (upd_ne fun q => ?_).trans h⟩)
    rw [q, e] at h
    cases h
  · exact .inr h
theorem Keep.put (o : HO) : Keep S H (upd H S.a o) := fun b u n h => (upd_ne n).trans h
/-- an address that is free later was free before -/
theorem Keep.free (h : Keep S H H') (L : LS K S H') {p : Addr} (hp : H' p = none) : H p = none := by
  have n : p ≠ S.a := fun e => by
    obtain ⟨k, l, f, q⟩ := L.st
    rw [e, q] at hp
    cases hp
  cases e : H p with
  | none => rfl
  | some o =>
    rw [h p o n e] at hp
    cases hp
theorem LS.ne_free (L : LS K S H) {p : Addr} (hp : H p = none) : p ≠ S.a := fun e => by
  obtain ⟨k, l, f, q⟩ := L.st
  rw [e, q] at hp
  cases hp
end
abbrev s__law_cell : Stmt := (top 10)
theorem sc__law_cell : FnScope ["script", "k"] ["script", "k"] (defScope s__law_cell) := ⟨rfl, rfl, rfl, by decide +kernel, rfl, by decide +kernel, by decide +kernel⟩
abbrev s__law_numbers : Stmt := (top 11)
theorem sc__law_numbers : FnScope ["cell", "many", "rest", "size", "numbers", "k", "mixed"] ["cell", "many"] (defScope s__law_numbers) := ⟨rfl, rfl, rfl, by decide +kernel, rfl, by decide +kernel, by decide +kernel⟩
abbrev s__law_state : Stmt := (top 12)
theorem sc__law_state : FnScope ["script", "left", "numbers", "k", "parted"] ["script", "left"] (defScope s__law_state) := ⟨rfl, rfl, rfl, by decide +kernel, rfl, by decide +kernel, by decide +kernel⟩
abbrev s__law_next : Stmt := (top 13)
theorem sc__law_next : FnScope ["state", "many", "at"] ["state", "many"] (defScope s__law_next) := ⟨rfl, rfl, rfl, by decide +kernel, rfl, by decide +kernel, by decide +kernel⟩
abbrev s__law_big : Stmt := (top 14)
theorem sc__law_big : FnScope ["state", "many", "cell"] ["state", "many"] (defScope s__law_big) := ⟨rfl, rfl, rfl, by decide +kernel, rfl, by decide +kernel, by decide +kernel⟩
def sp__law_cell (K : PySem.W.Frag) : Sp := sp2 fun a b H Q _ => ∃ (sl : Addr) (ns : List Int) (k : Int), a = .ref sl ∧ b = .int k ∧ SqL K H sl (ns.map V.int) ∧ 0 ≤ k ∧ ∀ z : Int, Q (.int z) H
def sp__law_numbers : Sp := sp2 fun a b H Q _ => ∃ (z : Int) (n : Nat), a = .int z ∧ b = .int (n : Int) ∧ n ≤ 1000 ∧ ∀ (p : Addr) (xs : List Int), H p = none → xs.length = n → Q (.ref p) (upd H p (.lst (xs.map V.int)))
def sp__law_state (K : PySem.W.Frag) : Sp := sp2 fun a b H Q _ => ∃ (sl : Addr) (ns : List Int) (l : Int), a = .ref sl ∧ b = .int l ∧ SqL K H sl (ns.map V.int) ∧
  ∀ (S : SC) (H' : Hp), S.sl = sl → S.ns = ns → LS K S H' → Same H H' → H S.a = none → Q (.ref S.a) H'
def sp__law_next (K : PySem.W.Frag) : Sp := sp2 fun a b H Q _ => ∃ (S : SC) (m : Int), a = .ref S.a ∧ b = .int m ∧ 0 < m ∧ LS K S H ∧ ∀ (r : Int) (H' : Hp), 0 ≤ r → r < m → LS K S H' → Keep S H H' → Q (.int r) H'
def sp__law_big (K : PySem.W.Frag) : Sp := sp__law_next K
section
variable {P : Program} {w : World} {K : PySem.W.Frag} {mg : Str → Option Value} {base : Heap} {f : Addr} {fd : FuncData}
theorem ok__law_cell (F : FunD K "_law_cell" "_law_cell" (defArgs s__law_cell) (defBody s__law_cell) (defScope s__law_cell) [] [] (glAd "_law_cell" K) fd) (m : mg "_law_cell" = some (.ref (glAd "_law_cell" K))) (nb : Nm K mg) : Cal P w K mg base 1 "_law_cell" (sp__law_cell K) [] := by
  refine calD F m sc__law_cell (fun _ _ _ _ _ _ us hl => match us, hl with | [_, _], _ => rfl) len2 (fun cdv A outer s H vs Q E hr h => ⟨_, (pss_cons (ps_if (pt_cmpR op_lt (pv 1) (pe_callB call_len_seq (by rfl) nb.len PySem.boot_len (pa_cons (pv 0) pa_nil)) (nomark _))
    (pss_one (ps_ret (pe_ix ix_list (pv 0) (pv 1) (fun _ _ => rfl))))
    pss_nil)
    (pss_one (ps_ret pe_int))), ?_⟩)
  obtain ⟨_, _, rfl, sl, ns, k, rfl, rfl, hs, h0, h⟩ := h
  walk_at "rd"
  refine ⟨_, _, rfl, .inl hs, ?_⟩
  walk_at "rd"
  refine r_ite (fun c => ?_) (fun c => ?_)
  · rw [List.length_map] at c
    obtain ⟨v, _, e⟩ := atI_ints h0 c
    walk_at "rd"
    exact r_ixL hs e (h v)
  · walk_at "rd"
    exact h 0
theorem ok__law_numbers (F : FunD K "_law_numbers" "_law_numbers" (defArgs s__law_numbers) (defBody s__law_numbers) (defScope s__law_numbers) [] [] (glAd "_law_numbers" K) fd) (m : mg "_law_numbers" = some (.ref (glAd "_law_numbers" K))) (nb : Nm K mg) : Cal P w K mg base 1 "_law_numbers" sp__law_numbers [] := by
  refine calD F m sc__law_numbers (fun _ _ _ _ _ _ us hl => match us, hl with | [_, _], _ => rfl) len2 (fun cdv A outer s H vs Q E hr h => ⟨_, (pss_cons (ps_set (i := 2) sc__law_numbers.nd rfl (Or.inl rfl) (pe_callB call_abs (by rfl) nb.abs (by decide +kernel) (pa_cons (pv 0) pa_nil)))
    (pss_cons (ps_set (i := 3) sc__law_numbers.nd rfl (Or.inl rfl) (pv 2))
    (pss_cons (ps_set (i := 4) sc__law_numbers.nd rfl (Or.inl rfl) (pe_lst pa_nil))
    (pss_cons (ps_for PassesOwn.never rfl (pi_range1 rfl nb.range (pa_cons (pv 1) pa_nil)) (pg_name (i := 5) sc__law_numbers.nd rfl (Or.inl rfl))
    (pss_one (ps_if (PW.pt (pw_and (pt_cmpR op_ge (pv 3) (pe_op op_pow pe_int pe_int) (nomark _)) (pw_and1 (pt_cmpR op_gt (pv 2) pe_int (nomark _)))))
    (pss_cons (ps_expr (pe_bm PySem.F.plainAttrs_list PySem.F.slot_list_append PySem.F.type_list_append mt_append (pv 4) (pa_cons (pe_op op_mod (pe_callTy call_int1 (by rfl) nb.int (by decide +kernel) (pa_cons (pv 2) pa_nil)) pe_int) pa_nil)))
    (pss_one (ps_set (i := 2) sc__law_numbers.nd rfl (Or.inl rfl) (pe_op op_fdiv (pv 2) pe_int))))
    (pss_cons (ps_set (i := 6) sc__law_numbers.nd rfl (Or.inl rfl) (pe_op op_mod (pe_callTy call_int1 (by rfl) nb.int (by decide +kernel) (pa_cons (pe_op op_add (pe_op op_add (pe_op op_mul (pv 3) pe_int) (pe_op op_mul (pv 5) pe_int)) pe_int) pa_nil)) pe_int))
    (pss_cons (ps_set (i := 6) sc__law_numbers.nd rfl (Or.inl rfl) (pe_op op_mod (pe_callTy call_int1 (by rfl) nb.int (by decide +kernel) (pa_cons (pe_op op_add (pe_op op_add (pe_op op_mul (pv 6) (pv 6)) (pe_op op_mul pe_int (pv 5))) pe_int) pa_nil)) pe_int))
    (pss_one (ps_expr (pe_bm PySem.F.plainAttrs_list PySem.F.slot_list_append PySem.F.type_list_append mt_append (pv 4) (pa_cons (pe_op op_mod (pe_callTy call_int1 (by rfl) nb.int (by decide +kernel) (pa_cons (pe_op op_fdiv (pv 6) pe_int) pa_nil)) pe_int) pa_nil)))))))))
    (pss_one (ps_ret (pv 4))))))), ?_⟩)
  obtain ⟨_, _, rfl, z, n, rfl, rfl, hn, h⟩ := h
  walk_at "rd"
  refine ⟨Nat.zero_le _, fun p hp => ?_⟩
  walk_at "rd"
  refine r_turns (by omega) (by omega) (fun i σ H' => ∃ (rest size : Int) (xs : List Int) (k mx : Option V), σ = [some (.int z), some (.int (n : Int)), some (.int rest), some (.int size), some (.ref p), k, mx] ∧ xs.length = i ∧ H' = upd H p (.lst (xs.map V.int))) ⟨_, _, [], none, none, rfl, rfl, rfl⟩ ?_ ?_
  · rintro i σ _ hi ⟨rest, size, xs, k, mx, rfl, hl, rfl⟩
    have hsz : (xs.map V.int).length < sizeLine := small1000 (by rw [List.length_map]; omega)
    have app : ∀ y : Int, upd (upd H p (.lst (xs.map V.int))) p (.lst (xs.map V.int ++ [.int y])) = upd H p (.lst ((xs ++ [y]).map V.int)) := fun y => by
      rw [upd_upd, List.map_append]
      rfl
    have two : ∀ r : Int, ∀ (σ' : St) (k mx : Option V) (rest size : Int), σ' = [some (.int z), some (.int (n : Int)), some (.int rest), some (.int size), some (.ref p), k, mx] → ∃ (rest size : Int) (xs' : List Int) (k mx : Option V), σ' = [some (.int z), some (.int (n : Int)), some (.int rest), some (.int size), some (.ref p), k, mx] ∧ xs'.length = i + 1 ∧ upd (upd H p (.lst (xs.map V.int))) p (.lst (xs.map V.int ++ [.int r])) = upd H p (.lst (xs'.map V.int)) := fun r σ' k mx rest size e =>
      ⟨rest, size, xs ++ [r], k, mx, e, by rw [List.length_append, hl]; rfl, app r⟩
    walk_at "rd"
    refine r_ite (fun c1 => ?_) (fun c1 => ?_)
    · walk_at "rd"
      refine r_ite (fun c2 => ?_) (fun c2 => ?_)
      · walk_at "rd"
        refine ⟨tyL upd_same, ?_⟩
        walk_at "rd"
        refine r_app upd_same hsz ?_
        walk_at "rd"
        exact two _ _ _ _ _ _ rfl
      · walk_at "rd"
        refine r_I (.inl ⟨by omega, by omega⟩) ?_
        walk_at "rd"
        refine ⟨tyL upd_same, ?_⟩
        walk_at "rd"
        refine r_app upd_same hsz ?_
        walk_at "rd"
        exact two _ _ _ _ _ _ rfl
    · walk_at "rd"
      refine r_I (.inl ⟨by omega, by omega⟩) ?_
      walk_at "rd"
      refine ⟨tyL upd_same, ?_⟩
      walk_at "rd"
      refine r_app upd_same hsz ?_
      walk_at "rd"
      exact two _ _ _ _ _ _ rfl
  · rintro σ _ ⟨rest, size, xs, k, mx, rfl, hl, rfl⟩
    walk_at "rd"
    exact h p xs hp (by omega)
theorem ok__law_next (F : FunD K "_law_next" "_law_next" (defArgs s__law_next) (defBody s__law_next) (defScope s__law_next) [] [] (glAd "_law_next" K) fd) (m : mg "_law_next" = some (.ref (glAd "_law_next" K))) (nb : Nm K mg) : Cal P w K mg base 1 "_law_next" (sp__law_next K) [] := by
  refine calD F m sc__law_next (fun _ _ _ _ _ _ us hl => match us, hl with | [_, _], _ => rfl) len2 (fun cdv A outer s H vs Q E hr h => ⟨_, (pss_cons (ps_set (i := 2) sc__law_next.nd rfl (Or.inl rfl) (pe_ix ix_list (pv 0) pe_int (fun _ _ => rfl)))
    (pss_cons (ps_asg (pe_op op_add (pv 2) pe_int) (pg_sub (pv 0) pe_int set_list))
    (pss_one (ps_ret (pe_op op_mod (pe_callTy call_int1 (by rfl) nb.int (by decide +kernel) (pa_cons (pe_op op_add (pe_ix ix_list (pe_ix ix_list (pv 0) pe_int (fun _ _ => rfl)) (pe_op op_mod (pv 2) pe_int) (fun _ _ => rfl)) (pe_op op_mul pe_int (pe_op op_fdiv (pv 2) pe_int))) pa_nil)) (pv 1)))))), ?_⟩)
  obtain ⟨_, _, rfl, S, mm, rfl, rfl, h0, L, h⟩ := h
  obtain ⟨k, l, f5, e⟩ := L.st
  walk_at "rd"
  refine r_ixL (SqL.of e) rfl ?_
  walk_at "rd"
  refine r_setL e rfl ?_
  walk_at "rd"
  have L2 := L.put (k + 1) l f5
  obtain ⟨v, _, ev⟩ := atI_ints (ns := S.nums) (k := k % 120) (by omega) (by rw [L.len]; omega)
  refine r_ixL (SqL.of upd_same) rfl ?_
  walk_at "rd"
  refine r_ixL (SqL.of L2.nm) ev ?_
  walk_at "rd"
  refine r_I h0 ?_
  exact h _ _ (Int.emod_nonneg _ (by omega)) (Int.emod_lt_of_pos _ h0) L2 (Keep.put _)
theorem ok__law_big (F : FunD K "_law_big" "_law_big" (defArgs s__law_big) (defBody s__law_big) (defScope s__law_big) [] [] (glAd "_law_big" K) fd) (m : mg "_law_big" = some (.ref (glAd "_law_big" K))) (nb : Nm K mg) (c__law_cell : Cal P w K mg base 1 "_law_cell" (sp__law_cell K) []) (c__law_next : Cal P w K mg base 1 "_law_next" (sp__law_next K) []) : Cal P w K mg base 2 "_law_big" (sp__law_big K) [] := by
  refine calD F m sc__law_big (fun _ _ _ _ _ _ us hl => match us, hl with | [_, _], _ => rfl) len2 (fun cdv A outer s H vs Q E hr h => ⟨_, (pss_cons (ps_set (i := 2) sc__law_big.nd rfl (Or.inl rfl) (pe_callB call_abs (by rfl) nb.abs (by decide +kernel) (pa_cons (pe_c c__law_cell hr (by decide) rfl (pa_cons (pe_ix ix_list (pv 0) pe_int (fun _ _ => rfl)) (pa_cons (pe_op op_add pe_int (pe_c c__law_next hr (by decide) rfl (pa_cons (pv 0) (pa_cons pe_int pa_nil)))) pa_nil))) pa_nil)))
    (pss_one (ps_ret (pe_op op_mod (pe_callTy call_int1 (by rfl) nb.int (by decide +kernel) (pa_cons (pe_op op_add (pe_op op_mul (pv 2) pe_int) (pe_c c__law_next hr (by decide) rfl (pa_cons (pv 0) (pa_cons pe_int pa_nil)))) pa_nil)) (pv 1))))), ?_⟩)
  obtain ⟨_, _, rfl, S, mm, rfl, rfl, h0, L, h⟩ := h
  obtain ⟨k, l, f5, e⟩ := L.st
  walk_at "rd"
  refine r_ixL (SqL.of e) rfl ?_
  walk_at "rd"
  refine ⟨_, _, rfl, S, _, rfl, rfl, by decide, L, fun r1 H1 a1 b1 L1 K1 => ?_⟩
  walk_at "rd"
  refine ⟨_, _, rfl, S.sl, S.ns, _, rfl, rfl, L1.scr, by omega, fun z => ?_⟩
  walk_at "rd"
  refine ⟨_, _, rfl, S, _, rfl, rfl, by decide, L1, fun r2 H2 a2 b2 L2 K2 => ?_⟩
  walk_at "rd"
  refine r_I h0 ?_
  exact h _ _ (Int.emod_nonneg _ (by omega)) (Int.emod_lt_of_pos _ h0) L2 (K1.trans K2)
theorem ok__law_state (F : FunD K "_law_state" "_law_state" (defArgs s__law_state) (defBody s__law_state) (defScope s__law_state) [] [] (glAd "_law_state" K) fd) (m : mg "_law_state" = some (.ref (glAd "_law_state" K))) (nb : Nm K mg) (c__law_cell : Cal P w K mg base 1 "_law_cell" (sp__law_cell K) []) (c__law_numbers : Cal P w K mg base 1 "_law_numbers" sp__law_numbers []) : Cal P w K mg base 2 "_law_state" (sp__law_state K) [] := by
  refine calD F m sc__law_state (fun _ _ _ _ _ _ us hl => match us, hl with | [_, _], _ => rfl) len2 (fun cdv A outer s H vs Q E hr h => ⟨_, (pss_cons (ps_set (i := 2) sc__law_state.nd rfl (Or.inl rfl) (pe_lst pa_nil))
    (pss_cons (ps_setLc (i := 4) (own := [("k", 3)]) (g := gName 3) (tt := tYes) rfl sc__law_state.nd rfl rfl (sw_true rfl rfl rfl (by decide +kernel)) (pi_range1 rfl nb.range (pa_cons pe_int pa_nil)) (blkOk_by (N := ["script", "left", "numbers", "k", "parted"]) (sc := defScope s__law_state) (by decide +kernel)) (fun _ _ _ _ _ => pg_name (i := 3) sc__law_state.nd rfl (Or.inl rfl)) (fun _ _ _ _ _ => pts_nil) (fun _ _ _ _ _ => (pe_c c__law_numbers hr (by decide) rfl (pa_cons (pe_c c__law_cell hr (by decide) rfl (pa_cons (pv 0) (pa_cons (pv 3) pa_nil))) (pa_cons pe_int pa_nil)))))
    (pss_cons (ps_for PassesOwn.never rfl (pi_range1 rfl nb.range (pa_cons pe_int pa_nil)) (pg_name (i := 3) sc__law_state.nd rfl (Or.inl rfl))
    (pss_cons (ps_expr (pe_bm PySem.F.plainAttrs_list PySem.F.slot_list_append PySem.F.type_list_append mt_append (pv 2) (pa_cons (pe_ix ix_list (pe_ix ix_list (pv 4) pe_int (fun _ _ => rfl)) (pv 3) (fun _ _ => rfl)) pa_nil)))
    (pss_cons (ps_expr (pe_bm PySem.F.plainAttrs_list PySem.F.slot_list_append PySem.F.type_list_append mt_append (pv 2) (pa_cons (pe_ix ix_list (pe_ix ix_list (pv 4) pe_int (fun _ _ => rfl)) (pv 3) (fun _ _ => rfl)) pa_nil)))
    (pss_one (ps_expr (pe_bm PySem.F.plainAttrs_list PySem.F.slot_list_append PySem.F.type_list_append mt_append (pv 2) (pa_cons (pe_ix ix_list (pe_ix ix_list (pv 4) pe_int (fun _ _ => rfl)) (pv 3) (fun _ _ => rfl)) pa_nil)))))))
    (pss_one (ps_ret (pe_lst (pa_cons (pv 2) (pa_cons pe_int (pa_cons (pv 1) (pa_cons (pv 0) (pa_cons pe_int pa_nil))))))))))), ?_⟩)
  obtain ⟨_, _, rfl, sl, ns, l, rfl, rfl, hs, h⟩ := h
  walk_at "rd"
  refine ⟨Nat.zero_le _, fun p hp => ?_⟩
  walk_at "rd"
  refine r_lcR 3 (by decide) (fun D hD => ?_) (fun R hR => hR)
  have sp0 := same_upd hp (.lst [])
  have pD : p ≠ D := fun e => by
    rw [← e, upd_same] at hD
    cases hD
  refine lc_range (fun i H' => ∃ ps : List Addr, H' D = some (.lst (ps.map V.ref)) ∧ ps.length = i ∧ (∀ q ∈ ps, q ≠ D ∧ ∃ xs : List Int, H' q = some (.lst (xs.map V.int)) ∧ xs.length = 40) ∧ Same (upd H p (.lst [])) H') ⟨[], upd_same, rfl, fun q hq => (by cases hq), same_upd hD _⟩ ?_ ?_
  · rintro i H' hi ⟨ps, e1, e2, e3, e4⟩
    walk_at "rd"
    refine ⟨rfl, ?_⟩
    walk_at "rd"
    have hs' : SqL K H' sl (ns.map V.int) := e4.seq (sp0.seq hs)
    refine ⟨_, _, rfl, sl, ns, _, rfl, rfl, hs', by omega, fun z => ?_⟩
    walk_at "rd"
    refine ⟨_, _, rfl, z, 40, rfl, rfl, by decide, fun q xs hq hx => ?_⟩
    have Dq : D ≠ q := ne_of_none e1 hq
    refine ⟨_, (upd_ne Dq).trans e1, small1000 (by rw [List.length_map]; omega), ps ++ [q], ?_, by rw [List.length_append, e2]; rfl, ?_, ?_⟩
    · rw [upd_same, List.map_append]
      rfl
    · intro q' hq'
      rcases List.mem_append.mp hq' with h1 | h1
      · obtain ⟨n1, xs', x1, x2⟩ := e3 q' h1
        exact ⟨n1, xs', by rw [upd_ne n1, upd_ne (ne_of_none x1 hq)]; exact x1, x2⟩
      · have e5 : q' = q := by simpa using h1
        subst e5
        exact ⟨Ne.symm Dq, xs, by rw [upd_ne (Ne.symm Dq), upd_same], hx⟩
    · intro b o hb
      have hb2 := e4 b o hb
      rw [upd_ne (ne_of_none hb hD), upd_ne (ne_of_none hb2 hq)]
      exact hb2
  · rintro H' ⟨ps, e1, e2, e3, e4⟩
    walk_at "rd"
    obtain ⟨p0, p1, p2, rfl⟩ : ∃ p0 p1 p2, ps = [p0, p1, p2] := match ps, e2 with | [a, b, c], _ => ⟨a, b, c, rfl⟩
    obtain ⟨_, x0, y0, z0⟩ := e3 p0 (by simp)
    obtain ⟨_, x1, y1, z1⟩ := e3 p1 (by simp)
    obtain ⟨_, x2, y2, z2⟩ := e3 p2 (by simp)
    have hp' : H' p = some (.lst []) := e4 _ _ upd_same
    have ne0 : ∀ {q : Addr} {xs : List Int}, H' q = some (.lst (xs.map V.int)) → xs.length = 40 → q ≠ p := fun {q xs} h1 h2 h3 => by
      rw [h3, hp'] at h1
      injection h1 with h1
      injection h1 with h1
      have h4 := congrArg List.length h1
      rw [List.length_map, h2] at h4
      cases h4
    have n0 := ne0 y0 z0
    have n1 := ne0 y1 z1
    have n2 := ne0 y2 z2
    have nD : D ≠ p := Ne.symm pD
    have fit : ∀ (xs : List Int) (i : Nat), xs.length = 40 → (i : Int) < 40 → ∃ v, atI (xs.map V.int) (i : Int) = some (.int v) := fun xs i h1 h2 => by
      obtain ⟨v, _, e⟩ := atI_ints (ns := xs) (k := (i : Int)) (by omega) (by omega)
      exact ⟨v, e⟩
    refine r_turns (by decide) (by decide) (fun i σ H2 => ∃ (zs : List Int) (kk : Option V), σ = [some (.ref sl), some (.int l), some (.ref p), kk, some (.ref D)] ∧ zs.length = 3 * i ∧ H2 = upd H' p (.lst (zs.map V.int))) ⟨[], none, rfl, rfl, ?_⟩ ?_ ?_
    · funext b
      by_cases c : b = p
      · subst c
        rw [upd_same, hp']
        rfl
      · rw [upd_ne c]
    · rintro i σ _ hi ⟨zs, kk, rfl, hz, rfl⟩
      obtain ⟨v0, a0⟩ := fit x0 i z0 hi
      obtain ⟨v1, a1⟩ := fit x1 i z1 hi
      obtain ⟨v2, a2⟩ := fit x2 i z2 hi
      walk_at "rd"
      refine ⟨tyL upd_same, ?_⟩
      walk_at "rd"
      refine r_ixL (SqL.of ((upd_ne nD).trans e1)) rfl ?_
      walk_at "rd"
      refine r_ixL (SqL.of ((upd_ne n0).trans y0)) a0 ?_
      walk_at "rd"
      refine r_app upd_same (small1000 (by rw [List.length_map]; omega)) ?_
      rw [upd_upd]
      walk_at "rd"
      refine ⟨tyL upd_same, ?_⟩
      walk_at "rd"
      refine r_ixL (SqL.of ((upd_ne nD).trans e1)) rfl ?_
      walk_at "rd"
      refine r_ixL (SqL.of ((upd_ne n1).trans y1)) a1 ?_
      walk_at "rd"
      refine r_app upd_same (small1000 (by rw [List.length_append, List.length_map]; show zs.length + 1 ≤ 1000; omega)) ?_
      rw [upd_upd]
      walk_at "rd"
      refine ⟨tyL upd_same, ?_⟩
      walk_at "rd"
      refine r_ixL (SqL.of ((upd_ne nD).trans e1)) rfl ?_
      walk_at "rd"
      refine r_ixL (SqL.of ((upd_ne n2).trans y2)) a2 ?_
      walk_at "rd"
      refine r_app upd_same (small1000 (by rw [List.length_append, List.length_append, List.length_map]; show zs.length + 1 + 1 ≤ 1000; omega)) ?_
      rw [upd_upd]
      exact ⟨zs ++ [v0] ++ [v1] ++ [v2], _, rfl, by simp [hz]; omega, by simp⟩
    · rintro σ _ ⟨zs, kk, rfl, hz, rfl⟩
      walk_at "rd"
      refine ⟨(by show 5 ≤ sizeLine; decide), fun a ha => ?_⟩
      have sa := same_upd ha (.lst [.ref p, .int 0, .int l, .ref sl, .int 3])
      have pa : p ≠ a := ne_of_none upd_same ha
      have all : Same H (upd H' p (.lst (zs.map V.int))) := fun b o hb => by
        rw [upd_ne (ne_of_none hb hp)]
        exact e4 _ _ (sp0 _ _ hb)
      have hsl : SqL K H sl (ns.map V.int) := hs
      refine h ⟨a, p, sl, zs, ns⟩ _ rfl rfl ⟨⟨0, l, 3, upd_same⟩, (upd_ne pa).trans upd_same, by rw [hz]; rfl, pa, sa.seq (all.seq hs)⟩ (all.trans sa) (all.free ha)
end

/-! ### draws -/
section
variable {K : PySem.W.Frag} {S : SC} {σ : St} {H : Hp} {Q : VK} {E : XK}
theorem d_next {m : Int} (L : LS K S H) (hm : 0 < m) (h : ∀ (r : Int) (H' : Hp), 0 ≤ r → r < m → LS K S H' → Keep S H H' → Q (.int r) H') : sp__law_next K ([.ref S.a, .int m] ++ []) H Q E := ⟨_, _, rfl, S, m, rfl, rfl, hm, L, h⟩
/-- a new object -/
theorem d_new {o : HO} {R : Addr → Hp → Prop} {c : Prop} (L : LS K S H) (hc : c) (h : ∀ (p : Addr) (H' : Hp), LS K S H' → Keep S H H' → Same H H' → H p = none → H' p = some o → p ≠ S.a → R p H') : c ∧ ∀ p, H p = none → R p (upd H p o) :=
  ⟨hc, fun p hp => h p _ (L.new hp o) (Keep.of (same_upd hp o)) (same_upd hp o) hp upd_same (L.ne_free hp)⟩
theorem d_newI {zs : List Int} {R : Addr → Hp → Prop} {c : Prop} (L : LS K S H) (hc : c) (h : ∀ (p : Addr) (H' : Hp), LS K S H' → Keep S H H' → Same H H' → H p = none → H' p = some (.lst (zs.map V.int)) → p ≠ S.a → R p H') : c ∧ ∀ p, H p = none → R p (upd H p (.lst (zs.map V.int))) := d_new L hc h
/-- [x, y, ..][_law_next(state, n)] -/
theorem d_pick {xs : List V} {n : Int} {i : Nat} (L : LS K S H) (e : σ[i]? = some (some (.ref S.a))) (hl : xs.length ≤ sizeLine) (hn : 0 < n) (hx : (xs.length : Int) = n)
    (h : ∀ (v : V) (H' : Hp), v ∈ xs → LS K S H' → Keep S H H' → Q v H') :
    xs.length ≤ sizeLine ∧ ∀ p, H p = none → tCall (sp__law_next K) [] E (tCons (tVar i) (tCons (tC (.int n)) tNil)) σ (upd H p (.lst xs)) fun y H2 => rIxL K (.ref p) y H2 Q := by
  refine ⟨hl, fun p hp => ⟨_, e, ?_⟩⟩
  show sp__law_next K ([.ref S.a, .int n] ++ []) (upd H p (.lst xs)) (fun y H2 => rIxL K (.ref p) y H2 Q) E
  refine d_next (L.new hp _) hn fun r H' h0 h1 L' k => ?_
  have hr : r.toNat < xs.length := by omega
  have er : r = ((r.toNat : Nat) : Int) := by omega
  refine ⟨p, xs, r, xs[r.toNat], rfl, rfl, SqL.of (k _ _ (L.ne_free hp) upd_same), ?_, ?_⟩
  · have q := atI_nat (xs := xs) (j := r.toNat) (v := xs[r.toNat]) (List.getElem?_eq_getElem hr)
    rw [← er] at q
    exact q
  · exact h _ _ (List.getElem_mem hr) L' ((Keep.of (same_upd hp _)).trans k)
/-- the same, all of them numbers from lo to hi -/
theorem d_pickI {xs : List V} {n : Int} {i : Nat} (lo hi : Int) (L : LS K S H) (e : σ[i]? = some (some (.ref S.a))) (hl : xs.length ≤ sizeLine) (hn : 0 < n) (hx : (xs.length : Int) = n) (hz : ∀ v ∈ xs, ∃ z, v = V.int z ∧ lo ≤ z ∧ z ≤ hi)
    (h : ∀ (z : Int) (H' : Hp), lo ≤ z → z ≤ hi → V.int z ∈ xs → LS K S H' → Keep S H H' → Q (.int z) H') :
    xs.length ≤ sizeLine ∧ ∀ p, H p = none → tCall (sp__law_next K) [] E (tCons (tVar i) (tCons (tC (.int n)) tNil)) σ (upd H p (.lst xs)) fun y H2 => rIxL K (.ref p) y H2 Q :=
  d_pick L e hl hn hx fun v H' hv L' k => by
    obtain ⟨z, rfl, h1, h2⟩ := hz v hv
    exact h z H' h1 h2 hv L' k
theorem all_nil {p : V → Prop} : ∀ v ∈ ([] : List V), p v := fun v hv => by cases hv
theorem all_cons {p : V → Prop} {x : V} {xs : List V} (h : p x) (t : ∀ v ∈ xs, p v) : ∀ v ∈ x :: xs, p v := fun v hv => by
  rcases List.mem_cons.mp hv with e | e
  · rw [e]
    exact h
  · exact t v e
end

/-! ### slices, comprehensions, objects: rules of general use -/
section
variable {σ : St} {H : Hp} {n b c : St → Hp → Prop} {r : VK} {Q : VK} {K : Frg} {a C dx : Addr} {fs : List (Str × V)} {f : Str} {v : V}
theorem r_fsetK {R : Hp → Prop} {fs' : List (Str × V)} (h : H a = some (.ins C dx fs)) (cl : Cls K C) (na : NoAttr K C f) (hl : fs.length < 1000) (e : putF f v fs = fs') (q : ∀ H', H' a = some (.ins C dx fs') → (∀ b, b ≠ a → H' b = H b) → R H') :
    ∃ a' C dx fs, V.ref a = .ref a' ∧ H a' = some (.ins C dx fs) ∧ Cls K C ∧ NoAttr K C f ∧ fs.length < 1000 ∧ R (upd H a' (.ins C dx (putF f v fs))) := r_fset h cl na hl e (q _ upd_same fun _ hb => upd_ne hb)
theorem r_appK {p : Addr} {xs : List V} {y : V} (h : H p = some (.lst xs)) (hl : xs.length < sizeLine) (q : ∀ H', H' p = some (.lst (xs ++ [y])) → (∀ b, b ≠ p → H' b = H b) → Q .non H') : rAppend (.ref p) [y] H Q := r_app h hl (q _ upd_same fun _ hb => upd_ne hb)
theorem r_gfldV {R : St → Hp → Prop} {fs' : List (Str × V)} {k : Nat} (ek : σ[k]? = some (some (.ref a))) (h : H a = some (.ins C dx fs)) (cl : Cls K C) (na : NoAttr K C f) (hl : fs.length < 1000) (e : putF f v fs = fs') (q : ∀ H', H' a = some (.ins C dx fs') → (∀ b, b ≠ a → H' b = H b) → R σ H') : gFld K (tVar k) f v σ H R :=
  ⟨_, ek, a, C, dx, fs, rfl, h, cl, na, hl, by rw [e]; exact q _ upd_same fun _ hb => upd_ne hb⟩
end
def But (a l : Addr) (H H' : Hp) : Prop := ∀ b u, b ≠ a → b ≠ l → H b = some u → H' b = some u
theorem map_snoc (ps : List Int) (x : Int) : ps.map V.int ++ [V.int x] = (ps ++ [x]).map V.int := by simp
theorem dp_tup {K : Frg} {H : Hp} {v : V} {ds : List PyData} (h : Dp K H v (.tuple ds)) : ∃ a xs, v = .ref a ∧ SqT K H a xs ∧ DpAll K H xs ds := by
  cases h
  exact ⟨_, _, rfl, by assumption, by assumption⟩
theorem dp_get {K : Frg} {H : Hp} : ∀ {xs : List V} {ds : List PyData} {i : Nat} {x : V}, DpAll K H xs ds → xs[i]? = some x → ∃ d, ds[i]? = some d ∧ Dp K H x d
  | [], _, _, _, _, e => by cases e
  | x :: xs, _, 0, _, .cons h t, e => by
    cases e
    exact ⟨_, rfl, h⟩
  | x :: xs, _, i + 1, _, .cons h t, e => by
    obtain ⟨d, e1, h1⟩ := dp_get (i := i) t e
    exact ⟨d, e1, h1⟩
theorem dp_len {K : Frg} {H : Hp} : ∀ {xs : List V} {ds : List PyData}, DpAll K H xs ds → xs.length = ds.length
  | [], _, .nil => rfl
  | _ :: _, _, .cons _ t => congrArg (· + 1) (dp_len t)
theorem dp_ints {K : Frg} {H : Hp} : ∀ {xs : List V} (ns : List Int), DpAll K H xs (ns.map PyData.int) → xs = ns.map V.int
  | _, [], h => by
    cases h
    rfl
  | _, n :: ns, h => by
    cases h with
    | cons h t =>
      cases h
      rw [dp_ints ns t]
      rfl
theorem dpa_ints {K : Frg} {H : Hp} : ∀ (ns : List Int), DpAll K H (ns.map V.int) (ns.map PyData.int)
  | [] => .nil
  | n :: ns => .cons (.int n) (dpa_ints ns)
theorem shaped_ints (ns : List Int) : SeqAt.shaped (.list (ns.map PyData.int)) = true := PySem.W.ke_shaped_ints ns
theorem ints_get {cs : List Int} {i : Nat} {x : V} (e : (cs.map V.int)[i]? = some x) : ∃ c, cs[i]? = some c ∧ x = .int c ∧ cs.take (i + 1) = cs.take i ++ [c] := by
  rw [List.getElem?_map] at e
  obtain ⟨c, h, rfl⟩ := Option.map_eq_some_iff.mp e
  refine ⟨c, h, rfl, ?_⟩
  rw [List.take_succ, h]
  rfl
theorem ints_step {cs : List Int} {i : Nat} {c : Int} (h : cs[i]? = some c) : cs.take (i + 1) = cs.take i ++ [c] := by
  rw [List.take_succ, h]
  rfl
/-- the state stays when a place changes that was free at an earlier heap -/
theorem LS.away {K : PySem.W.Frag} {S : SC} {H1 H' : Hp} (L1 : LS K S H1) {D : Addr} (hD : H1 D = none) (L : LS K S H') (o : HO) : LS K S (upd H' D o) := by
  obtain ⟨⟨k, l, f, e⟩, h2, h3, h4, h5⟩ := L1
  obtain ⟨⟨k', l', f', e'⟩, h2', _, _, h5'⟩ := L
  have n : ∀ {b : Addr} {u : HO}, H1 b = some u → b ≠ D := fun h z => by
    rw [z, hD] at h
    cases h
  refine ⟨⟨k', l', f', (upd_ne (n e)).trans e'⟩, (upd_ne (n h2)).trans h2', h3, h4, ?_⟩
  rcases h5 with (h | ⟨u, h⟩) | h
  · exact seq_upd h5' (n h)
  · exact seq_upd h5' (n h)
  · exact .inr h
theorem r_sl {σ : St} {H : Hp} {Q : VK} {r : V → Option Int → Option Int → Hp → VK → Prop} {te : TE} {tl th : TO} (h : te σ H fun x H1 => tl σ H1 fun l H2 => th σ H2 fun u H3 => r x l u H3 Q) : tSl r te tl th σ H Q := h
theorem r_part {σ : St} {H : Hp} {t : TE} {Q : Option Int → Hp → Prop} (h : t σ H fun x H1 => ∃ i, x = .int i ∧ Q (some i) H1) : tPart t σ H Q := h
theorem r_some {i : Int} {Q : Option Int → Prop} (h : Q (some i)) : ∃ j, V.int i = .int j ∧ Q (some j) := ⟨i, rfl, h⟩
theorem r_nopart {σ : St} {H : Hp} {Q : Option Int → Hp → Prop} (h : Q none H) : tNoPart σ H Q := h
theorem r_slL {K : PySem.W.Frag} {p : Addr} {xs : List V} {lo hi : Option Int} {H : Hp} {Q : VK} (hs : SqL K H p xs) (h : ∀ q, H q = none → Q (.ref q) (upd H q (.lst (cutV xs lo hi)))) : rSlL K (.ref p) lo hi H Q := ⟨p, xs, rfl, hs, h⟩
theorem cut_tl {v : V} {xs : List V} : cutV (v :: xs) (some 1) none = xs := by
  have e : HT.sIx (v :: xs).length 0 (some 1) = 1 := (HT.sIx_nat (v :: xs).length 0 1).trans (by show min 1 (xs.length + 1) = 1; omega)
  unfold cutV
  rw [e, HT.sIx_none]
  show xs.take (xs.length + 1 - 1) = xs
  simp
theorem r_min2 {σ : St} {H : Hp} {Q : VK} {K : PySem.W.Frag} {p : Addr} {x y : Int} (hs : H p = some (.lst [.int x, .int y])) (h : Q (.int (min x y)) H) : rMin K [.ref p] H Q := by
  refine ⟨p, [x, y], rfl, SqL.of hs, by show 0 < 2; decide, fun m hm hle => ?_⟩
  have h1 := hle x (by simp)
  have h2 := hle y (by simp)
  have e : m = min x y := by
    rcases List.mem_cons.mp hm with e | e
    · omega
    · rcases List.mem_cons.mp e with e | e
      · omega
      · cases e
  rw [e]
  exact h
theorem at0 {v : V} {xs : List V} : atI (v :: xs) 0 = some v := atI_nat (xs := v :: xs) (j := 0) rfl
theorem cut_ints (zs : List Int) (lo hi : Option Int) : ∃ ws : List Int, cutV (zs.map V.int) lo hi = ws.map V.int ∧ (∀ x ∈ ws, x ∈ zs) ∧ ws.length ≤ zs.length := by
  refine ⟨(zs.drop (HT.sIx (zs.map V.int).length 0 lo)).take (HT.sIx (zs.map V.int).length (zs.map V.int).length hi - HT.sIx (zs.map V.int).length 0 lo), ?_, ?_, ?_⟩
  · unfold cutV
    rw [List.map_take, List.map_drop]
  · intro x hx
    exact List.mem_of_mem_drop (List.mem_of_mem_take hx)
  · rw [List.length_take, List.length_drop]
    omega
/-- a slice of a row of numbers in a slot -/
theorem d_cut {σ : St} {H : Hp} {Q : VK} {K : PySem.W.Frag} {k : Nat} {o : Addr} {zs : List Int} {tl th : TO} (lo hi : Option Int) (e : σ[k]? = some (some (.ref o))) (g : H o = some (.lst (zs.map V.int))) (hl : ∀ R : Option Int → Hp → Prop, R lo H → tl σ H R) (hh : ∀ R : Option Int → Hp → Prop, R hi H → th σ H R)
    (h : ∀ (q : Addr) (ws : List Int), H q = none → (∀ x ∈ ws, x ∈ zs) → ws.length ≤ zs.length → Q (.ref q) (upd H q (.lst (ws.map V.int)))) : tSl (rSlL K) (tVar k) tl th σ H Q := by
  refine r_sl ⟨_, e, hl _ (hh _ ?_)⟩
  obtain ⟨ws, e1, e2, e3⟩ := cut_ints zs lo hi
  refine r_slL (SqL.of g) fun q nq => ?_
  rw [e1]
  exact h q ws nq e2 e3
theorem cat_ints (a b : List Int) : a.map V.int ++ b.map V.int = (a ++ b).map V.int := by simp
theorem LS.but {K : PySem.W.Frag} {S : SC} {H1 H H' : Hp} (L1 : LS K S H1) {m l : Addr} (hm : H1 m = none) (hl : H1 l = none) (L : LS K S H) (b : But m l H H') : LS K S H' := by
  obtain ⟨⟨k, l', f, e⟩, h2, h3, h4, h5⟩ := L1
  obtain ⟨⟨k', l'', f', e'⟩, h2', _, _, h5'⟩ := L
  have n1 : ∀ {b : Addr} {u : HO}, H1 b = some u → b ≠ m := fun h z => by
    rw [z, hm] at h
    cases h
  have n2 : ∀ {b : Addr} {u : HO}, H1 b = some u → b ≠ l := fun h z => by
    rw [z, hl] at h
    cases h
  refine ⟨⟨k', l'', f', b _ _ (n1 e) (n2 e) e'⟩, b _ _ (n1 h2) (n2 h2) h2', h3, h4, ?_⟩
  have go : S.sl ≠ m → S.sl ≠ l → SqL K H' S.sl (S.ns.map V.int) := fun q1 q2 => by
    rcases h5' with (h | ⟨u, h⟩) | h
    · exact .inl (.inl (b _ _ q1 q2 h))
    · exact .inl (.inr ⟨u, b _ _ q1 q2 h⟩)
    · exact .inr h
  rcases h5 with (h | ⟨u, h⟩) | h
  · exact go (n1 h) (n2 h)
  · exact go (n1 h) (n2 h)
  · exact .inr h
theorem But.refl (a l : Addr) (H : Hp) : But a l H H := fun _ _ _ _ z => z
theorem But.trans {a l : Addr} {H H1 H2 : Hp} (x : But a l H H1) (y : But a l H1 H2) : But a l H H2 := fun b u p q z => y b u p q (x b u p q z)
theorem But.same {a l : Addr} {H H1 : Hp} (x : Same H H1) : But a l H H1 := fun b u _ _ z => x b u z
theorem cut_to {zs : List Int} {d : Nat} (h : d ≤ zs.length) : cutV (zs.map V.int) none (some (d : Nat)) = (zs.take d).map V.int := by
  unfold cutV
  rw [HT.sIx_nat, HT.sIx_none, List.length_map, Nat.min_eq_left h, List.drop_zero, Nat.sub_zero, List.map_take]
theorem r_lcL {σ : St} {H : Hp} {Q : VK} {K : PySem.W.Frag} {tl : TE} {g : TG} {tt : TT} {te : TE} {vs : List Nat} (h : tl σ H fun x H1 => ∃ a, x = .ref a ∧ (∃ xs, SqL K H1 a xs) ∧ ∀ D, H1 D = none → ∃ W : Nat → Nat → Hp → Prop, (∃ m, W 0 m (upd H1 D (.lst []))) ∧ ∀ i m H, W i m H →
  ((Itl K a).stop i H ∧ Q (.ref D) H) ∨ ((Itl K a).go i H ∧ ∃ Nx : Hp → Prop, (∀ H', Nx H' → ∃ m', m' < m ∧ W (i + 1) m' H') ∧ ∀ x H', (Itl K a).yld i H x H' → g x (wipe σ vs) H' fun σ2 H2 => wipe σ2 vs = wipe σ vs ∧ tt σ2 H2 fun b H3 =>
    if b = true then te σ2 H3 fun y H4 => ∃ acc, H4 D = some (.lst acc) ∧ acc.length < sizeLine ∧ Nx (upd H4 D (.lst (acc ++ [y]))) else Nx H3)) : tLc (iList K tl) g tt te vs σ H Q := h
/-- a for over range(j), what stands behind a break known -/
theorem r_turnsB {σ : St} {H : Hp} {n : St → Hp → Prop} {r : VK} {j : Int} {g : TG} {tb : TS} (h1 : -(2 ^ 62) ≤ j) (h2 : j < 2 ^ 62) (M : St → Hp → Prop) (hM : ∀ σ H, M σ H → n σ H) (Pv : Nat → St → Hp → Prop) (h0 : Pv 0 σ H)
    (hs : (∀ σ H, M σ H → n σ H) → ∀ (i : Nat) σ H, (i : Int) < j → Pv i σ H → g (.int (i : Int)) σ H fun σ2 H2 => tb ⟨Pv (i + 1), r, n, Pv (i + 1)⟩ σ2 H2) (hd : ∀ σ H, Pv j.toNat σ H → M σ H) :
    -(2 ^ 62) ≤ j ∧ j < 2 ^ 62 ∧ ∃ W : Nat → Nat → St → Hp → Prop, (∃ m, W 0 m σ H) ∧ ∀ i m σ H, W i m σ H →
    ((Itr 0 j.toNat).stop i H ∧ n σ H) ∨ ((Itr 0 j.toNat).go i H ∧ ∃ N : St → Hp → Prop, (∀ σ' H', N σ' H' → ∃ m', m' < m ∧ W (i + 1) m' σ' H') ∧ ∀ x H', (Itr 0 j.toNat).yld i H x H' → g x σ H' fun σ2 H2 => tb ⟨N, r, n, N⟩ σ2 H2) :=
  r_turns h1 h2 Pv h0 (hs hM) fun σ H p => hM σ H (hd σ H p)
theorem at_end (a : List Int) (v : Int) : atI ((a ++ [v]).map V.int) ((((a ++ [v]).length : Nat) : Int) - 1) = some (.int v) := by
  rw [show (((a ++ [v]).length : Nat) : Int) - 1 = ((a.length : Nat) : Int) by rw [List.length_append]; show ((a.length + 1 : Nat) : Int) - 1 = _; omega]
  refine atI_nat ?_
  rw [List.getElem?_map, List.getElem?_append_right (Nat.le_refl _), Nat.sub_self]
  rfl
theorem r_lc0 {σ : St} {H : Hp} {Q : VK} {ta : TA} {g : TG} {tt : TT} {te : TE} {vs : List Nat} (h : ta σ H fun ws H1 => ∃ j : Int, ws = [.int j] ∧ -(2 ^ 62) ≤ j ∧ j < 2 ^ 62 ∧ ∀ D, H1 D = none → ∃ W : Nat → Nat → Hp → Prop, (∃ m, W 0 m (upd H1 D (.lst []))) ∧ ∀ i m H, W i m H →
  ((Itr 0 j.toNat).stop i H ∧ Q (.ref D) H) ∨ ((Itr 0 j.toNat).go i H ∧ ∃ Nx : Hp → Prop, (∀ H', Nx H' → ∃ m', m' < m ∧ W (i + 1) m' H') ∧ ∀ x H', (Itr 0 j.toNat).yld i H x H' → g x (wipe σ vs) H' fun σ2 H2 => wipe σ2 vs = wipe σ vs ∧ tt σ2 H2 fun b H3 =>
    if b = true then te σ2 H3 fun y H4 => ∃ acc, H4 D = some (.lst acc) ∧ acc.length < sizeLine ∧ Nx (upd H4 D (.lst (acc ++ [y]))) else Nx H3)) : tLc (iRng1 ta) g tt te vs σ H Q := h

/-! ### more rules of general use -/
theorem r_lcT {σ : St} {H : Hp} {Q : VK} {K : PySem.W.Frag} {tl : TE} {g : TG} {tt : TT} {te : TE} {vs : List Nat} (h : tl σ H fun x H1 => ∃ a, x = .ref a ∧ (∃ xs, SqT K H1 a xs) ∧ ∀ D, H1 D = none → ∃ W : Nat → Nat → Hp → Prop, (∃ m, W 0 m (upd H1 D (.lst []))) ∧ ∀ i m H, W i m H →
  ((Itt K a).stop i H ∧ Q (.ref D) H) ∨ ((Itt K a).go i H ∧ ∃ Nx : Hp → Prop, (∀ H', Nx H' → ∃ m', m' < m ∧ W (i + 1) m' H') ∧ ∀ x H', (Itt K a).yld i H x H' → g x (wipe σ vs) H' fun σ2 H2 => wipe σ2 vs = wipe σ vs ∧ tt σ2 H2 fun b H3 =>
    if b = true then te σ2 H3 fun y H4 => ∃ acc, H4 D = some (.lst acc) ∧ acc.length < sizeLine ∧ Nx (upd H4 D (.lst (acc ++ [y]))) else Nx H3)) : tLc (iTup K tl) g tt te vs σ H Q := h
theorem r_gunl {σ : St} {H : Hp} {K : PySem.W.Frag} {p : Addr} {xs : List V} {n : Nat} {t : TGs} {R : St → Hp → Prop} (hs : SqL K H p xs) (hl : xs.length = n) (h : t xs σ H R) : gUnl K n t (.ref p) σ H R := ⟨p, xs, rfl, hs, hl, h⟩
theorem cut_from {zs : List Int} {d : Nat} : cutV (zs.map V.int) (some (d : Nat)) none = (zs.drop d).map V.int := by
  unfold cutV
  rw [HT.sIx_nat, HT.sIx_none, List.length_map]
  by_cases h : d ≤ zs.length
  · rw [Nat.min_eq_left h, List.take_of_length_le (by rw [List.length_drop, List.length_map]; omega), List.map_drop]
  · rw [Nat.min_eq_right (by omega), List.drop_of_length_le (by rw [List.length_map]; omega), List.drop_of_length_le (by omega)]
    simp
theorem cut_mid {zs : List Int} {d e : Nat} (h : d ≤ e) : cutV (zs.map V.int) (some (d : Nat)) (some (e : Nat)) = ((zs.drop d).take (e - d)).map V.int := by
  unfold cutV
  rw [HT.sIx_nat, HT.sIx_nat, List.length_map]
  by_cases h1 : e ≤ zs.length
  · rw [Nat.min_eq_left h1, Nat.min_eq_left (by omega), List.map_take, List.map_drop]
  · by_cases h2 : d ≤ zs.length
    · rw [Nat.min_eq_right (by omega), Nat.min_eq_left h2, List.map_take, List.map_drop, List.take_of_length_le (by rw [List.length_drop, List.length_map]; omega), List.take_of_length_le (by rw [List.length_drop, List.length_map]; omega)]
    · rw [Nat.min_eq_right (by omega), Nat.min_eq_right (by omega), Nat.sub_self, List.take_zero, List.drop_of_length_le (l := zs) (by omega)]
      simp
theorem cut_to' {zs : List Int} {d : Nat} : cutV (zs.map V.int) none (some (d : Nat)) = (zs.take d).map V.int := by
  unfold cutV
  rw [HT.sIx_nat, HT.sIx_none, List.length_map, List.drop_zero, Nat.sub_zero, List.map_take]
  by_cases h : d ≤ zs.length
  · rw [Nat.min_eq_left h]
  · rw [Nat.min_eq_right (by omega), List.take_of_length_le (by rw [List.length_map]; omega), List.take_of_length_le (by rw [List.length_map]; omega)]
/-- list + list, both of integers -/
theorem r_catI {a b : Addr} {xs ys : List Int} {H : Hp} {Q : VK} (h1 : H a = some (.lst (xs.map V.int))) (h2 : H b = some (.lst (ys.map V.int))) (hl : xs.length + ys.length ≤ 1000) (h : ∀ p H', H p = none → H' p = some (.lst ((xs ++ ys).map V.int)) → Same H H' → Q (.ref p) H') : rCat (.ref a) (.ref b) H Q :=
  ⟨a, b, _, _, rfl, rfl, h1, h2, Nat.le_of_lt (small1000 (by rw [List.length_map, List.length_map]; exact hl)), fun p hp => h p _ hp (by rw [upd_same, cat_ints]) (same_upd hp _)⟩
theorem r_slI {K : PySem.W.Frag} {p : Addr} {xs ys : List Int} {lo hi : Option Int} {H : Hp} {Q : VK} (hs : H p = some (.lst (xs.map V.int))) (e : cutV (xs.map V.int) lo hi = ys.map V.int) (h : ∀ q H', H q = none → H' q = some (.lst (ys.map V.int)) → Same H H' → Q (.ref q) H') : rSlL K (.ref p) lo hi H Q :=
  r_slL (SqL.of hs) fun q hq => h q _ hq (by rw [upd_same, e]) (same_upd hq _)
/-- a new list or tuple -/
theorem r_nw {o : HO} {R : Addr → Hp → Prop} {c : Prop} {H : Hp} (hc : c) (h : ∀ (p : Addr) (H' : Hp), H p = none → H' p = some o → Same H H' → R p H') : c ∧ ∀ p, H p = none → R p (upd H p o) :=
  ⟨hc, fun p hp => h p _ hp upd_same (same_upd hp o)⟩
theorem r_nwI {zs : List Int} {R : Addr → Hp → Prop} {c : Prop} {H : Hp} (hc : c) (h : ∀ (p : Addr) (H' : Hp), H p = none → H' p = some (.lst (zs.map V.int)) → Same H H' → R p H') : c ∧ ∀ p, H p = none → R p (upd H p (.lst (zs.map V.int))) :=
  r_nw hc h
theorem same_tup {K : PySem.W.Frag} {H H' : Hp} {a : Addr} {xs : List V} (e : Same H H') (h : SqT K H a xs) : SqT K H' a xs := by
  rcases h with (h | ⟨o, h⟩) | h
  · exact .inl (.inl (e _ _ h))
  · exact .inl (.inr ⟨o, e _ _ h⟩)
  · exact .inr h
theorem same_seq {K : PySem.W.Frag} {H H' : Hp} {a : Addr} {xs : List V} (e : Same H H') (h : SqL K H a xs ∨ SqT K H a xs) : SqL K H' a xs ∨ SqT K H' a xs := h.elim (fun q => .inl (e.seq q)) fun q => .inr (same_tup e q)
theorem same_away {H1 H' : Hp} {D : Addr} {o : HO} (s : Same H1 H') (n : H1 D = none) : Same H1 (upd H' D o) := fun b u h => by
  rw [upd_ne (ne_of_none h n)]
  exact s b u h
theorem rep1 (n : Nat) (z : Int) : (List.replicate n [V.int z]).flatten = (List.replicate n z).map V.int := by
  induction n with
  | zero => rfl
  | succ n ih => rw [List.replicate_succ, List.replicate_succ, List.flatten_cons, ih]; rfl
/-- [z] * k -/
theorem r_repI {a : Addr} {z k : Int} {H : Hp} {Q : VK} (h1 : H a = some (.lst [.int z])) (h0 : -1000 ≤ k) (hk : k ≤ 1000) (h : ∀ p H', H p = none → H' p = some (.lst ((List.replicate k.toNat z).map V.int)) → Same H H' → Q (.ref p) H') : rRep (.ref a) (.int k) H Q :=
  ⟨a, k, [.int z], rfl, rfl, h1, by omega, by omega, Nat.le_of_lt (small1000 (by show 1 * _ ≤ 1000; omega)), fun p hp => h p _ hp (by rw [upd_same, rep1]) (same_upd hp _)⟩
def sp0 (f : Hp → VK → XK → Prop) : Sp := fun vs H Q E => vs = [] ∧ f H Q E
theorem len0 {f} (vs : List V) (H : Hp) (Q : VK) (E : XK) (h : sp0 f vs H Q E) : vs.length = 0 := by
  obtain ⟨rfl, _⟩ := h
  rfl
theorem ffl {i : Int} (h1 : -(2 ^ 62) ≤ i) (h2 : i < 2 ^ 62) : Builtin.Range.rangeFitsLong i = true := by
  unfold Builtin.Range.rangeFitsLong
  rw [decide_eq_true (by omega), decide_eq_true (by omega)]
  rfl
theorem rgP (n c k : Nat) (hn : n < 2 ^ 60) (h0 : 0 < c) (hc : c < 1000) (hk : k = (n + (c - 1)) / c) : RgC 0 (n : Nat) (c : Nat) k := by
  have hkn : k ≤ n + (c - 1) := by
    rw [hk]
    exact Nat.div_le_self _ _
  have e : Builtin.Range.rangeSize 0 (n : Nat) (c : Nat) = ((k : Nat) : Int) := by
    unfold Builtin.Range.rangeSize
    rw [if_pos (by omega)]
    by_cases z : n = 0
    · subst z
      rw [if_neg (by omega)]
      have : k = 0 := by rw [hk, Nat.zero_add]; exact Nat.div_eq_of_lt (by omega)
      omega
    · rw [if_pos (by omega)]
      have e1 : ((n : Nat) : Int) - 0 - 1 = ((n - 1 : Nat) : Int) := by omega
      rw [e1]
      have e2 : (n + (c - 1)) / c = (n - 1) / c + 1 := by
        rw [show n + (c - 1) = n - 1 + c by omega, Nat.add_div_right _ h0]
      rw [hk, e2]
      simp
  have hs : Builtin.Range.small 0 (n : Nat) (c : Nat) = true := by
    unfold Builtin.Range.small
    rw [e, ffl (by decide) (by decide), ffl (by omega) (by omega), ffl (by omega) (by omega), ffl (by omega) (by omega), if_pos (by omega), ffl (by omega) (by omega)]
    simp
  exact ⟨by omega, by omega, hs, e⟩
/-- list.extend -/
theorem r_extI {a b : Addr} {xs ys : List Int} {H : Hp} {Q : VK} (h1 : H a = some (.lst (xs.map V.int))) (h2 : H b = some (.lst (ys.map V.int))) (hl : xs.length + ys.length ≤ 4000) (h : ∀ H', H' a = some (.lst ((xs ++ ys).map V.int)) → (∀ b o, b ≠ a → H b = some o → H' b = some o) → (∀ H1, Same H1 H → H1 a = none → Same H1 H') → Q .non H') : rExtend (.ref a) [.ref b] H Q :=
  ⟨a, b, _, _, rfl, rfl, h1, h2, Nat.le_trans (by rw [List.length_map, List.length_map]; exact hl) (by decide : 4000 ≤ sizeLine), h _ (by rw [upd_same, cat_ints]) (fun b o n e => by rw [upd_ne n]; exact e) fun H1 s n => same_away s n⟩
/-- a slice of a row, list or tuple -/
theorem r_slSeq {K : PySem.W.Frag} {p : Addr} {xs : List Int} {d e : Nat} {H : Hp} {Q : VK} (hde : d ≤ e) (hs : SqL K H p (xs.map V.int) ∨ SqT K H p (xs.map V.int)) (h : ∀ q H', SqL K H' q (((xs.drop d).take (e - d)).map V.int) ∨ SqT K H' q (((xs.drop d).take (e - d)).map V.int) → Same H H' → Q (.ref q) H') : rSlL K (.ref p) (some (d : Nat)) (some (e : Nat)) H Q ∨ rSlA K (.ref p) (some (d : Nat)) (some (e : Nat)) H Q := by
  rcases hs with hs | hs
  · refine .inl (r_slL hs fun q hq => h q _ (.inl (SqL.of ?_)) (same_upd hq _))
    rw [upd_same, cut_mid hde]
  · refine .inr ⟨p, _, rfl, hs, fun hw => ?_, fun _ q hq => ?_⟩
    · refine h p H (.inr ?_) (Same.refl H)
      obtain ⟨w1, w2⟩ := hw
      rw [HT.sIx_nat, List.length_map] at w1 w2
      by_cases c : d = 0
      · subst c
        rw [List.drop_zero, List.take_of_length_le (by omega)]
        exact hs
      · have e0 : xs.length = 0 := by omega
        have e1 : xs = [] := List.length_eq_zero_iff.mp e0
        subst e1
        simpa using hs
    · refine h q _ (.inr (SqT.of ?_)) (same_upd hq _)
      rw [upd_same, cut_mid hde]
theorem pe_c0 {X : Cx} {k j : Nat} {x : Str} {sp : Sp} {dvs : List V} {p pos : Pos} (c : Cal X.prog X.w X.K X.mg X.base k x sp dvs) (hr : Room j X.A) (hk : k ≤ j) (hg : Gl X x) (hdb : (x == ("__debug__" : Str)) = false := by decide) : PE X (.Call (.Name x p) [] [] pos) (tCall sp dvs C8.E0 tNil) := by
  obtain ⟨f, fd, ps, ds, F, hm, hk', b, d⟩ := c.ex
  exact pe_call0 F (hr.mono hk) hg hm hk' b d pass0 hdb

theorem eqv_ints (a b : List Int) : PyData.eqv (.list (a.map PyData.int)) (.list (b.map PyData.int)) = decide (a = b) := PySem.W.ked_eqvAll a b
/-- two rows of integers compared -/
theorem r_eqIL {K : PySem.W.Frag} {p q : Addr} {a b : List Int} {H : Hp} {Q : VK} (h1 : SqL K H p (a.map V.int)) (h2 : SqL K H q (b.map V.int)) (h : Q (.bl (decide (a = b))) H) : rEqD K (.ref p) (.ref q) H Q :=
  r_eqD (.lst h1 (dpa_ints _)) (.lst h2 (dpa_ints _)) (shaped_ints _) (shaped_ints _) (by rw [eqv_ints]; exact h)
theorem r_neIL {K : PySem.W.Frag} {p q : Addr} {a b : List Int} {H : Hp} {Q : VK} (h1 : SqL K H p (a.map V.int)) (h2 : SqL K H q (b.map V.int)) (h : Q (.bl (!decide (a = b))) H) : rNeD K (.ref p) (.ref q) H Q :=
  r_neD (.lst h1 (dpa_ints _)) (.lst h2 (dpa_ints _)) (shaped_ints _) (shaped_ints _) (by rw [eqv_ints]; exact h)
/-- a for over a text -/
theorem r_eachS {σ : St} {H : Hp} {n : St → Hp → Prop} {r : VK} {g : TG} {tb : TS} {z : Str} (Pv : Nat → St → Hp → Prop) (h0 : Pv 0 σ H)
    (hs : ∀ (i : Nat) (c : Nat) σ H, z.cps[i]? = some c → Pv i σ H → g (.str ⟨#[c]⟩) σ H fun σ2 H2 => tb ⟨Pv (i + 1), r, n, Pv (i + 1)⟩ σ2 H2) (hd : ∀ σ H, Pv z.cps.size σ H → n σ H) :
    ∃ W : Nat → Nat → St → Hp → Prop, (∃ m, W 0 m σ H) ∧ ∀ i m σ H, W i m σ H →
    ((Its z).stop i H ∧ n σ H) ∨ ((Its z).go i H ∧ ∃ N : St → Hp → Prop, (∀ σ' H', N σ' H' → ∃ m', m' < m ∧ W (i + 1) m' σ' H') ∧ ∀ x H', (Its z).yld i H x H' → g x σ H' fun σ2 H2 => tb ⟨N, r, n, N⟩ σ2 H2) := by
  refine r_each z.cps.size Pv h0 (fun i σ H hi p => ⟨hi, ?_⟩) fun σ H p => ⟨Nat.le_refl _, hd σ H p⟩
  rintro x _ ⟨rfl, c, hc, rfl⟩
  exact hs i c σ _ hc p
theorem r_itS {σ : St} {H : Hp} {te : TE} {R : It → Hp → Prop} (h : te σ H fun v H1 => ∃ x, v = .str x ∧ R (Its x) H1) : iStr te σ H R := h
def rLenK (K : Frg) : List V → Hp → VK → Prop := fun xs H Q => ∃ p ys, xs = [.ref p] ∧ (SqL K H p ys ∨ SqT K H p ys) ∧ Q (.int ys.length) H
def rListK (K : Frg) : List V → Hp → VK → Prop := fun xs H Q => ∃ p ys, xs = [.ref p] ∧ (SqL K H p ys ∨ SqT K H p ys) ∧ ∀ l, H l = none → Q (.ref l) (upd H l (.lst ys))
def rTupleK (K : Frg) : List V → Hp → VK → Prop := fun xs H Q => ∃ p ys, xs = [.ref p] ∧ ((SqL K H p ys ∧ ∀ l, H l = none → Q (.ref l) (upd H l (.tup ys))) ∨ (SqT K H p ys ∧ Q (.ref p) H))
theorem small4k {n : Nat} (h : n ≤ 4000) : n < sizeLine := Nat.lt_of_le_of_lt h (by decide)
theorem r_ifTF {b : Bool} {A B : Prop} (h1 : b = true → A) (h2 : b = false → B) : if b = true then A else B := by
  cases b with
  | true => exact h1 rfl
  | false => exact h2 rfl

local macro_rules | `(tactic| walk_at "rd1") => `(tactic| first
  | (with_reducible refine r_sl ?_)
  | (with_reducible refine r_part ?_)
  | (with_reducible refine r_some ?_)
  | (with_reducible refine r_nopart ?_)
  | (with_reducible refine r_rng2 ?_)
  | (with_reducible refine r_rng3 ?_)
  | (with_reducible refine r_itL ?_)
  | (with_reducible refine r_itT ?_)
  | (with_reducible refine r_lcT ?_)
  | (with_reducible refine r_lcL ?_)
  | (with_reducible refine r_lc0 ?_))
local macro_rules | `(tactic| walk_at "ri1") => `(tactic| first
  | (with_reducible refine r_sl ?_)
  | (with_reducible refine r_part ?_)
  | (with_reducible refine r_some ?_)
  | (with_reducible refine r_nopart ?_)
  | (with_reducible refine r_rng2 ?_)
  | (with_reducible refine r_rng3 ?_)
  | (with_reducible refine r_itL ?_)
  | (with_reducible refine r_itT ?_)
  | (with_reducible refine r_lcT ?_)
  | (with_reducible refine r_lcL ?_)
  | (with_reducible refine r_lc0 ?_))

/-! ### sorted: pairs of a tuple of integers and something, no two with the same integers -/
section
open PyProof.Rows PySem.W PySem.Calls
theorem lexLt_irr : ∀ a : List Int, HT.lexLt a a = false
  | [] => rfl
  | x :: xs => by
    rw [HT.lexLt_cons, if_pos rfl]
    exact lexLt_irr xs
theorem lexLt_asym : ∀ a b : List Int, HT.lexLt a b = true → HT.lexLt b a = false
  | [], [], h => by cases h
  | [], y :: ys, _ => rfl
  | x :: xs, [], h => by cases h
  | x :: xs, y :: ys, h => by
    rw [HT.lexLt_cons] at h ⊢
    by_cases e : x = y
    · rw [if_pos e] at h
      rw [if_pos e.symm]
      exact lexLt_asym xs ys h
    · rw [if_neg e] at h
      rw [if_neg (fun q => e q.symm)]
      have := of_decide_eq_true h
      exact decide_eq_false (by omega)
theorem lexLt_ntr : ∀ a b c : List Int, HT.lexLt b a = false → HT.lexLt c b = false → HT.lexLt c a = false
  | [], _, [], _, _ => rfl
  | [], _, z :: zs, _, _ => rfl
  | x :: xs, [], _, h, _ => by cases h
  | x :: xs, y :: ys, [], _, h => by cases h
  | x :: xs, y :: ys, z :: zs, h1, h2 => by
    rw [HT.lexLt_cons] at h1 h2 ⊢
    by_cases e1 : y = x
    · subst e1
      rw [if_pos rfl] at h1
      by_cases e2 : z = y
      · subst e2
        rw [if_pos rfl] at h2 ⊢
        exact lexLt_ntr xs ys zs h1 h2
      · rw [if_neg e2] at h2 ⊢
        exact h2
    · rw [if_neg e1] at h1
      have h1 := of_decide_eq_false h1
      by_cases e2 : z = y
      · subst e2
        rw [if_neg e1]
        exact decide_eq_false h1
      · rw [if_neg e2] at h2
        have h2 := of_decide_eq_false h2
        rw [if_neg (by omega)]
        exact decide_eq_false (by omega)
theorem lexLt_tri : ∀ a b : List Int, HT.lexLt a b = false → HT.lexLt b a = false → a = b
  | [], [], _, _ => rfl
  | [], y :: ys, h, _ => by cases h
  | x :: xs, [], _, h => by cases h
  | x :: xs, y :: ys, h1, h2 => by
    rw [HT.lexLt_cons] at h1 h2
    by_cases e : x = y
    · subst e
      rw [if_pos rfl] at h1 h2
      rw [lexLt_tri xs ys h1 h2]
    · rw [if_neg e] at h1
      rw [if_neg (fun q => e q.symm)] at h2
      have h1 := of_decide_eq_false h1
      have h2 := of_decide_eq_false h2
      omega
theorem lexLt_tr {a b c : List Int} (h1 : HT.lexLt a b = true) (h2 : HT.lexLt b c = true) : HT.lexLt a c = true := by
  cases h : HT.lexLt a c with
  | true => rfl
  | false =>
    have q := lexLt_ntr c a b h (lexLt_asym _ _ h1)
    rw [q] at h2
    cases h2
theorem swo_key {α : Type} (k : α → List Int) : SrtO.Swo fun v u => HT.lexLt (k v) (k u) := ⟨fun x y h => lexLt_asym _ _ h, fun x y z h1 h2 => lexLt_ntr _ _ _ h1 h2⟩
/-- a tuple of these integers in a heap -/
def IsTI (h : Heap) (q : Addr) (ns : List Int) : Prop := ∃ (o : Obj) (its : List Value) (n : Nat), h.get? q = some o ∧ o.cls = .type "tuple" ∧ o.data = .seq its.toArray n ∧ IntsAre its ns
theorem IsTI.keeps {h h' : Heap} {q : Addr} {ns : List Int} (x : IsTI h q ns) (k : ∀ b o, h.get? b = some o → o.cls = .type "tuple" → h'.get? b = some o) : IsTI h' q ns := by
  obtain ⟨o, its, n, h1, h2, h3, h4⟩ := x
  exact ⟨o, its, n, k _ _ h1 h2, h2, h3, h4⟩
theorem readsAll_ints {h : Heap} : ∀ {its : List Value} {ns : List Int}, IntsAre its ns → ReadsAll h its (ns.map PyData.int) []
  | _, _, .nil => .nil
  | _, _, .cons n t r => .cons (.int n t) (readsAll_ints r)
theorem IsTI.reads {h : Heap} {q : Addr} {ns : List Int} (x : IsTI h q ns) : Reads h (.ref q) (.tuple (ns.map PyData.int)) [] := by
  obtain ⟨o, its, n, h1, h2, h3, h4⟩ := x
  exact .tuple h1 h2 h3 (by simpa using readsAll_ints h4)
theorem lay_ints : ∀ ns : List Int, PyData.canLayAll0 (ns.map PyData.int) = true
  | [] => rfl
  | n :: ns => by
    show (PyData.canLay0 (.int n) && PyData.canLayAll0 (ns.map PyData.int)) = true
    rw [lay_ints ns]
    rfl
theorem lay_kd (ns : List Int) : (PyData.tuple (ns.map PyData.int)).canLay0 = true := lay_ints ns
theorem depth_ints : ∀ ns : List Int, PyData.depthAll (ns.map PyData.int) = 0
  | [] => rfl
  | n :: ns => by
    have e := depth_ints ns
    simp [PyData.depthAll, PyData.depth, e]
theorem depth_kd (ns : List Int) : (PyData.tuple (ns.map PyData.int)).depth ≤ 1 := by
  have e := depth_ints ns
  simp [PyData.depth, e]
theorem eqv_kd (a b : List Int) : PyData.eqv (.tuple (a.map PyData.int)) (.tuple (b.map PyData.int)) = decide (a = b) := PySem.W.ked_eqvAll a b
variable {prog : Program} {w : World} {A : Around} {s : Shared}
theorem ti_eqAt {q q' : Addr} {a b : List Int} (h1 : IsTI s.heap q a) (h2 : IsTI s.heap q' b) (hu : A.units + 1 < cLine) : SeqAt.EqAt A s (.ref q) (.ref q') (decide (a = b)) := by
  have e := SeqAt.eqAt_reads _ _ A s _ _ _ _ h1.reads h2.reads (lay_kd a) (lay_kd b) (by
    have := depth_kd a
    have := Nat.min_le_left (PyData.tuple (a.map PyData.int)).depth (PyData.tuple (b.map PyData.int)).depth
    omega)
  rw [eqv_kd] at e
  exact e
theorem ti_lt {q q' : Addr} {a b : List Int} (h1 : IsTI s.heap q a) (h2 : IsTI s.heap q' b) (hu : A.units < cLine) {E : Value → Shared → Prop} {Q : Bool → Shared → Prop} (h : Q (HT.lexLt a b) s) : wpAny (model prog w) A (oneLt' false (.ref q) (.ref q')) Q E s := by
  obtain ⟨o1, i1, n1, a1, a2, a3, a4⟩ := h1
  obtain ⟨o2, i2, n2, b1, b2, b3, b4⟩ := h2
  refine PySem.W.kat_one _ _ (HT.lt_tupInts (items := i1.toArray) (items2 := i2.toArray) ⟨o1, a1, a2, n1, a3⟩ ⟨o2, b1, b2, n2, b3⟩ (by simpa using a4) (by simpa using b4) hu ?_)
  exact h
/-- such a pair -/
def IsEnt (h : Heap) (v : Value) (ns : List Int) : Prop := ∃ (a q u : Addr) (o : Obj) (n : Nat), v = .ref a ∧ h.get? a = some o ∧ o.cls = .type "tuple" ∧ o.data = .seq #[.ref q, .ref u] n ∧ IsTI h q ns
theorem IsEnt.keeps {h h' : Heap} {v : Value} {ns : List Int} (x : IsEnt h v ns) (k : ∀ b o, h.get? b = some o → o.cls = .type "tuple" → h'.get? b = some o) : IsEnt h' v ns := by
  obtain ⟨a, q, u, o, n, e, h1, h2, h3, h4⟩ := x
  exact ⟨a, q, u, o, n, e, k _ _ h1 h2, h2, h3, h4.keeps k⟩
theorem ents_firsts {h : Heap} {k : Value → List Int} : ∀ {vs : List Value}, (∀ v ∈ vs, IsEnt h v (k v)) → ∃ fs : List Value, PySem.W.KatTups h vs fs ∧ fs.length = vs.length ∧ ∀ f ∈ fs, ∃ q ns, f = Value.ref q ∧ IsTI h q ns
  | [], _ => ⟨[], PySem.W.KatTups.nil, rfl, fun _ hm => by simp at hm⟩
  | v :: vs, hp => by
    obtain ⟨fs, h1, h2, h3⟩ := ents_firsts (vs := vs) fun v' hm => hp v' (List.mem_cons_of_mem _ hm)
    obtain ⟨a, q, u, o, n, e, ho, hc, hd, ht⟩ := hp v (List.mem_cons_self ..)
    subst e
    refine ⟨.ref q :: fs, PySem.W.KatTups.cons ho hc hd rfl h1, by rw [List.length_cons, List.length_cons, h2], fun f hm => ?_⟩
    rcases List.mem_cons.mp hm with rfl | hm
    · exact ⟨q, _, rfl, ht⟩
    · exact h3 f hm
theorem ent_cmp {vs : List Value} {k : Value → List Int} (hu : A.units + 1 < cLine) (hp : ∀ v ∈ vs, IsEnt s.heap v (k v)) (hi : ∀ v ∈ vs, ∀ u ∈ vs, k v = k u → v = u) : SrtO.Cmp prog w A s (tuples' false) (fun p => p.1 ∈ vs) (SrtO.lt2 fun v u => HT.lexLt (k v) (k u)) := by
  intro p q hm hm'
  have h1 := hp _ hm
  have h2 := hp _ hm'
  have hij := hi _ hm _ hm'
  show wpAny (model prog w) A (keyLt' (tuples' false) p.1 q.1) (fun r s' => s' = s ∧ r = HT.lexLt (k p.1) (k q.1)) (fun _ _ => False) s
  generalize k p.1 = x at h1 hij ⊢
  generalize k q.1 = y at h2 hij ⊢
  obtain ⟨a, q1, u, o, n, e, ho, hc, hd, t1⟩ := h1
  obtain ⟨a', q2, u', o', n', e', ho', hc', hd', t2⟩ := h2
  rw [e, e'] at hij ⊢
  refine PySem.W.kat_lt ho hd ho' hd' ?_
  show PySem.W.KatLex prog w A false (decide (2 < 2)) _ [(.ref q1, .ref q2), (.ref u, .ref u')] 0 s
  refine PySem.W.kat_cons (ti_eqAt t1 t2 hu prog w _ _ ?_)
  refine PySem.W.kat_go (fun e1 => ?_) (fun e1 => ?_)
  · have ex : x = y := of_decide_eq_true e1
    have ea := hij ex
    have ea : a = a' := by
      injection ea
    subst ea
    have eo : o = o' := Option.some.inj (ho.symm.trans ho')
    subst eo
    rw [hd] at hd'
    have eu : u = u' := by
      injection hd' with e1 e2
      simp at e1
      exact e1.2
    subst eu
    refine PySem.W.kat_yes (PySem.W.kat_cons (SeqAt.EqAt.same _ prog w _ _ ?_))
    refine PySem.W.kat_go (fun e2 => ?_) (fun e2 => by cases e2)
    refine PySem.W.kat_yes (PySem.W.kat_nil ⟨rfl, ?_⟩)
    rw [ex, lexLt_irr]
    rfl
  · exact PySem.W.kat_no (ti_lt t1 t2 (by omega) ⟨rfl, rfl⟩)
theorem ents_sortable {a : Addr} {vs : List Value} {k : Value → List Int} (hu : A.units + 1 < cLine) (h0 : 0 < vs.length) (hp : ∀ v ∈ vs, IsEnt s.heap v (k v)) (hi : ∀ v ∈ vs, ∀ u ∈ vs, k v = k u → v = u) (ha : ∀ o, s.heap.get? a = some o → o.cls ≠ .type "tuple") : SrtO.SortableO prog w A s a vs fun v u => HT.lexLt (k v) (k u) := by
  intro h' keep
  have kp : ∀ b o, s.heap.get? b = some o → o.cls = .type "tuple" → h'.get? b = some o := fun b o e c => keep b o (fun z => by subst z; exact ha o e c) e
  have hp' : ∀ v ∈ vs, IsEnt h' v (k v) := fun v hm => (hp v hm).keeps kp
  obtain ⟨fs, h1, h2, h3⟩ := ents_firsts hp'
  refine ⟨tuples' false, fun Q E hq => ?_, ent_cmp hu hp' hi⟩
  refine PySem.W.kat_kind (T := .type "tuple") h1 (by omega) (fun f hm => ?_) (by rfl) ?_
  · obtain ⟨q, ns, rfl, o, its, n, g1, g2, g3, g4⟩ := h3 f hm
    have e : PySem.W.Looks (model prog w) h' (typeOf (.ref q)) o.cls := (PySem.W.Looks.ld g1).andThen .now
    rw [g2] at e
    exact e
  · have e : (Value.type "tuple" != Value.type "tuple") = false := by first | decide +kernel | rfl | decide
    rw [e]
    exact hq
theorem sorted_ents {l : Addr} {vs : List Value} {k : Value → List Int} {E : Value → Shared → Prop} {Q : Value → Shared → Prop} (hu : A.units + 10 < cLine) (hl : s.heap.IsList l vs.toArray) (hz : vs.length ≤ sizeLine) (hp : ∀ v ∈ vs, IsEnt s.heap v (k v)) (hi : ∀ v ∈ vs, ∀ u ∈ vs, k v = k u → v = u)
    (h : ∀ (h' : Heap) (d : Addr) (out : List Value), SrtO.Srtd (fun v u => HT.lexLt (k v) (k u)) out → SrtO.Stb (fun v u => HT.lexLt (k v) (k u)) out vs → (∀ b o, s.heap.get? b = some o → h'.get? b = some o) → s.heap.objs.size ≤ d → (∃ n, h'.get? d = some (seqObj "list" out.toArray n)) → Q (.ref d) { s with heap := h' }) :
    wpAny (model prog w) A (call (.builtin "sorted") [.ref l]) Q E s := by
  refine SrtO.sorted_ord (swo_key k) hl hz (fun h2 h₁ a ha kk => ?_) fun out hs hb => ?_
  · refine ents_sortable (s := { s with heap := h₁ }) (by
      show A.units + 1 + 1 + 1 < cLine
      omega) (by omega) (fun v hm => (hp v hm).keeps fun b o e _ => (kk b o e).2) hi fun o e => ?_
    have e' : some o = some (seqObj "list" vs.toArray 0) := e.symm.trans ha
    cases e'
    intro c
    exact absurd (Value.type.inj c) (by decide)
  · exact h _ _ out hs hb (fun b o e => sortedAll_old e) (Nat.le_succ _) (sortedAll_at s.heap vs out.toArray)
/-! ### sorted: tuples of integers of any lengths -/
theorem one_lt_ti {q q' : Addr} {a b : List Int} {x : Bool} (h1 : IsTI s.heap q a) (h2 : IsTI s.heap q' b) (hu : A.units + 1 < cLine) {E : Value → Shared → Prop} {Q : Bool → Shared → Prop} (h : Q (HT.lexLt a b) s) : wpAny (model prog w) A (oneLt' x (.ref q) (.ref q')) Q E s := by
  cases x with
  | false => exact ti_lt h1 h2 (by omega) h
  | true =>
    obtain ⟨⟨cls, dd, data, sl⟩, i1, n1, a1, a2, a3, a4⟩ := h1
    obtain ⟨⟨cls2, dd2, data2, sl2⟩, i2, n2, b1, b2, b3, b4⟩ := h2
    simp only at a2 a3 b2 b3
    subst a2 a3 b2 b3
    rw [oneLt'_eq]
    simp only [if_true]
    refine wpAny_bind (wpAny_cRoomFor (by omega) ?_)
    refine wpAny_bind (wpAny_callSpecialIfBound?_slot (name := Str.ofString "__lt__") ⟨_, a1, rfl⟩ PySem.F.slot_tuple_lt (call_meets PySem.F.slot_tuple_lt ⟨_, a1, rfl⟩ PySem.F.entry_tuple_lt (PySem.F.args_tuple_lt_2 _ _) (HT.tuple_lt_ints q q' i1.toArray i2.toArray n1 n2 dd dd2 sl sl2 a b (by simpa using a4) (by simpa using b4)) ⟨a1, b1, ?_⟩))
    exact wpAny_truthy_bool h
theorem ti_lex {fin : Bool} {Q : Bool → Shared → Prop} : ∀ {vs us : List Value} {a b : List Int}, IntsAre vs a → IntsAre us b → (i : Nat) → (hf : a.length + us.length = a.length + us.length) → (∀ r, (∀ c d : List Int, c.length = a.length → d.length = b.length → True) → (r = HT.lexLt a b ∨ (r = fin ∧ (a.length ≤ b.length ∨ b.length ≤ a.length) ∧ HT.lexLt a b = decide (a.length < b.length) ∧ a.take b.length = b.take a.length)) → Q r s) →
    PySem.W.KatLex prog w A true fin Q (vs.zip us) i s
  | _, _, [], b, .nil, hb, i, _, h => by
    show Q fin s
    refine h fin (fun _ _ _ _ => trivial) (.inr ⟨rfl, .inl (Nat.zero_le _), ?_, by simp⟩)
    cases b with
    | nil => rfl
    | cons y ys => rfl
  | _, _, x :: a, [], .cons _ _ ra, .nil, i, _, h => by
    show Q fin s
    exact h fin (fun _ _ _ _ => trivial) (.inr ⟨rfl, .inr (Nat.zero_le _), rfl, by simp⟩)
  | _, _, x :: a, y :: b, .cons _ t ra, .cons _ u rb, i, _, h => by
    show PySem.W.KatLex prog w A true fin Q ((.int x t, .int y u) :: _) i s
    refine PySem.W.kat_cons (SeqAt.EqAt.int_int x t y u prog w _ _ ?_)
    refine PySem.W.kat_go (fun e1 => ?_) (fun e1 => ?_)
    · have ex : x = y := by simpa using e1
      subst ex
      refine PySem.W.kat_yes (ti_lex ra rb (i + 1) rfl fun r _ hr => h r (fun _ _ _ _ => trivial) ?_)
      rw [HT.lexLt_cons, if_pos rfl]
      rcases hr with hr | ⟨hr, h1, h2, h3⟩
      · exact .inl hr
      · refine .inr ⟨hr, ?_, ?_, ?_⟩
        · rw [List.length_cons, List.length_cons]
          omega
        · rw [h2, List.length_cons, List.length_cons]
          exact decide_eq_decide.mpr (by omega)
        · rw [List.length_cons, List.length_cons, List.take_succ_cons, List.take_succ_cons, h3]
    · have ex : ¬ x = y := by simpa using e1
      refine PySem.W.kat_no ?_
      have e3 : HT.lexLt (x :: a) (y :: b) = decide (x < y) := by rw [HT.lexLt_cons, if_neg ex]
      have hq : Q (decide (x < y)) s := h _ (fun _ _ _ _ => trivial) (.inl e3.symm)
      cases hb : (true && i == 0) with
      | true => exact oneLt_int hq
      | false => exact PySem.W.kat_one _ _ (PyProof.Rows.lt_int hq)
theorem ti_tuples {q q' : Addr} {a b : List Int} (h1 : IsTI s.heap q a) (h2 : IsTI s.heap q' b) {E : Value → Shared → Prop} {Q : Bool → Shared → Prop} (h : Q (HT.lexLt a b) s) : wpAny (model prog w) A (keyLt' (tuples' true) (.ref q) (.ref q')) Q E s := by
  obtain ⟨o1, i1, n1, a1, a2, a3, a4⟩ := h1
  obtain ⟨o2, i2, n2, b1, b2, b3, b4⟩ := h2
  refine PySem.W.kat_lt a1 a3 b1 b3 ?_
  have la := a4.length
  have lb := b4.length
  show PySem.W.KatLex prog w A true (decide (i1.toArray.size < i2.toArray.size)) Q (i1.zip i2) 0 s
  refine ti_lex a4 b4 0 rfl fun r _ hr => ?_
  rcases hr with hr | ⟨hr, _, h3, _⟩
  · rw [hr]
    exact h
  · rw [hr]
    have e : decide (i1.toArray.size < i2.toArray.size) = HT.lexLt a b := by
      rw [h3, List.size_toArray, List.size_toArray, la, lb]
    rw [e]
    exact h
def TiV (h : Heap) (v : Value) (ns : List Int) : Prop := ∃ q, v = .ref q ∧ IsTI h q ns
theorem ti_firsts {h : Heap} {k : Value → List Int} : ∀ {vs : List Value}, (∀ v ∈ vs, TiV h v (k v)) → (∀ v ∈ vs, k v ≠ []) → ∃ fs : List Value, PySem.W.KatTups h vs fs ∧ fs.length = vs.length ∧ ∀ f ∈ fs, ∃ x t, f = Value.int x t
  | [], _, _ => ⟨[], PySem.W.KatTups.nil, rfl, fun _ hm => by simp at hm⟩
  | v :: vs, hp, hn => by
    obtain ⟨fs, h1, h2, h3⟩ := ti_firsts (vs := vs) (fun v' hm => hp v' (List.mem_cons_of_mem _ hm)) (fun v' hm => hn v' (List.mem_cons_of_mem _ hm))
    obtain ⟨q, e, o, its, n, ho, hc, hd, ht⟩ := hp v (List.mem_cons_self ..)
    have hne := hn v (List.mem_cons_self ..)
    subst e
    revert hne ht
    generalize k (.ref q) = ns
    intro ht hne
    cases ht with
    | nil => exact absurd rfl hne
    | @cons x t vs' ns' r =>
      refine ⟨.int x t :: fs, PySem.W.KatTups.cons ho hc hd rfl h1, by rw [List.length_cons, List.length_cons, h2], fun f hm => ?_⟩
      rcases List.mem_cons.mp hm with rfl | hm
      · exact ⟨x, t, rfl⟩
      · exact h3 f hm
theorem ti_first {v : Value} {ns : List Int} (h : TiV s.heap v ns) {E : Value → Shared → Prop} {Q : Option Value → Shared → Prop} (q : ∀ r : Option Value, (r.isSome = true ↔ ns ≠ []) → Q r s) : wpAny (model prog w) A (firstOfTuple' v) Q E s := by
  obtain ⟨a, rfl, o, its, n, ho, hc, hd, ht⟩ := h
  rw [PySem.W.kas_first_eq]
  refine wpAny_bind (PySem.W.Looks.here (show PySem.W.Looks (model prog w) s.heap (typeOf (.ref a)) o.cls from (PySem.W.Looks.ld ho).andThen .now) ?_)
  rw [hc, if_neg (by first | decide | simp)]
  refine wpAny_bind (listItems_at ho hd (wpAny_pure ?_))
  refine q _ ?_
  cases ht with
  | nil => simp
  | cons x t r => simp
theorem ti_firstsM {k : Value → List Int} {E : Value → Shared → Prop} : ∀ {vs : List Value} {Q : List (Option Value) → Shared → Prop}, (∀ v ∈ vs, TiV s.heap v (k v)) → (∀ rs : List (Option Value), rs.length = vs.length → (∀ (i : Nat) (v : Value) (r : Option Value), vs[i]? = some v → rs[i]? = some r → (r.isSome = true ↔ k v ≠ [])) → Q rs s) → wpAny (model prog w) A (vs.mapM firstOfTuple') Q E s
  | [], Q, _, h => by
    rw [List.mapM_nil]
    exact wpAny_pure (h [] rfl fun i v r e => by simp at e)
  | v :: vs, Q, hp, h => by
    rw [List.mapM_cons]
    refine wpAny_bind (ti_first (hp v (List.mem_cons_self ..)) fun r hr => ?_)
    refine wpAny_bind (ti_firstsM (vs := vs) (fun v' hm => hp v' (List.mem_cons_of_mem _ hm)) fun rs hl hrs => wpAny_pure (h (r :: rs) (by rw [List.length_cons, List.length_cons, hl]) fun i v' r' e1 e2 => ?_))
    cases i with
    | zero =>
      cases (show some v = some v' from e1)
      cases (show some r = some r' from e2)
      exact hr
    | succ i => exact hrs i v' r' (by simpa using e1) (by simpa using e2)
theorem ti_types {E : Value → Shared → Prop} {k : Value → List Int} {vs : List Value} {Q : Option Value → Shared → Prop} (h0 : 0 < vs.length) (hp : ∀ v ∈ vs, TiV s.heap v (k v)) (h : Q (some (.type "tuple")) s) : wpAny (model prog w) A (oneTypeOnly' vs.toArray) Q E s := by
  obtain ⟨v1, vr, rfl⟩ : ∃ v1 vr, vs = v1 :: vr := by
    match vs, h0 with
    | v1 :: vr, _ => exact ⟨v1, vr, rfl⟩
  rw [oneTypeOnly'_eq, List.mapM_toArray, map_eq_pure_bind]
  refine wpAny_bind (wpAny_bind (PySem.W.kas_mapM (r := .type "tuple") _ (fun v hv Q' hq => ?_) (wpAny_pure ?_)))
  · obtain ⟨a, rfl, o, its, n, ho, hc, hd, ht⟩ := hp v hv
    have e : PySem.W.Looks (model prog w) s.heap (typeOf (.ref a)) o.cls := (PySem.W.Looks.ld ho).andThen .now
    rw [hc] at e
    exact e.here hq
  · have hall2 : ((List.map (fun _ => Value.type "tuple") (v1 :: vr)).toArray.all fun x => x == Value.type "tuple") = true := by
      simp only [List.all_toArray, List.all_map, List.all_eq_true]
      intro _ _
      rfl
    have h1 : (List.map (fun _ => Value.type "tuple") (v1 :: vr)).toArray[0]? = some (Value.type "tuple") := by simp
    rw [h1]
    simp only [hall2, if_true]
    exact wpAny_pure h
theorem ti_kind {k : Value → List Int} {vs : List Value} (h0 : 0 < vs.length) (hp : ∀ v ∈ vs, TiV s.heap v (k v)) : ∃ κ, (κ = tuples' true ∨ κ = general' ∨ κ = oneType') ∧ ∀ (Q : SortKind → Shared → Prop) (E : Value → Shared → Prop), Q κ s → wpAny (model prog w) A (keyKind' vs.toArray) Q E s := by
  by_cases hn : ∀ v ∈ vs, k v ≠ []
  · obtain ⟨fs, h1, h2, h3⟩ := ti_firsts hp hn
    refine ⟨tuples' true, .inl rfl, fun Q E hq => ?_⟩
    refine PySem.W.kat_kind (T := .type "int") h1 (by omega) (fun f hm => ?_) (by rfl) ?_
    · obtain ⟨x, t, rfl⟩ := h3 f hm
      exact PySem.W.Looks.now
    · have e : (Value.type "int" != Value.type "tuple") = true := by first | decide +kernel | rfl | decide
      rw [e]
      exact hq
  · obtain ⟨v, hv, hve⟩ : ∃ v ∈ vs, k v = [] := by
      refine Classical.byContradiction fun q => hn fun v hv e => q ⟨v, hv, e⟩
    obtain ⟨i, hi, hiv⟩ := List.getElem_of_mem hv
    have hiv : vs[i]? = some v := by rw [List.getElem?_eq_getElem hi, hiv]
    have no : ∀ rs : List (Option Value), rs.length = vs.length → (∀ (i : Nat) (v : Value) (r : Option Value), vs[i]? = some v → rs[i]? = some r → (r.isSome = true ↔ k v ≠ [])) → (rs.toArray.all fun x => x.isSome) = false := fun rs hl hrs => by
      cases hh : (rs.toArray.all fun x => x.isSome) with
      | false => rfl
      | true =>
        rw [List.all_toArray, List.all_eq_true] at hh
        have hir : i < rs.length := by omega
        have h1 := hrs i v rs[i] hiv (List.getElem?_eq_getElem hir)
        exact absurd hve (h1.mp (hh _ (List.getElem_mem hir)))
    by_cases hf : ∀ v0, vs[0]? = some v0 → k v0 ≠ []
    · refine ⟨general', .inr (.inl rfl), fun Q E hq => ?_⟩
      rw [kat_kind_eq, List.mapM_toArray, map_eq_pure_bind]
      refine wpAny_bind (wpAny_bind (ti_firstsM hp fun rs hl hrs => wpAny_pure ?_))
      rw [if_neg (by rw [no rs hl hrs]; decide)]
      have h00 : 0 < rs.length := by omega
      have e0 : (rs.toArray[0]?.bind id).isSome = true := by
        have hv0 : vs[0]? = some vs[0] := List.getElem?_eq_getElem h0
        have := (hrs 0 _ rs[0] hv0 (List.getElem?_eq_getElem h00)).mpr (hf _ hv0)
        simp [h00, this]
      rw [if_pos e0]
      exact wpAny_pure hq
    · obtain ⟨v0, hv0, hk0⟩ : ∃ v0, vs[0]? = some v0 ∧ k v0 = [] := by
        refine Classical.byContradiction fun q => hf fun v hv e => q ⟨v, hv, e⟩
      refine ⟨oneType', .inr (.inr rfl), fun Q E hq => ?_⟩
      rw [kat_kind_eq, List.mapM_toArray, map_eq_pure_bind]
      refine wpAny_bind (wpAny_bind (ti_firstsM hp fun rs hl hrs => wpAny_pure ?_))
      rw [if_neg (by rw [no rs hl hrs]; decide)]
      have h00 : 0 < rs.length := by omega
      have e0 : ¬ (rs.toArray[0]?.bind id).isSome = true := by
        have h1 := hrs 0 _ rs[0] hv0 (List.getElem?_eq_getElem h00)
        have h2 : ¬ rs[0].isSome = true := fun z => absurd hk0 (h1.mp z)
        simp [h00]
        simpa using h2
      rw [if_neg e0]
      refine wpAny_bind (ti_types h0 hp ?_)
      exact wpAny_pure hq
theorem ti_cmp {vs : List Value} {k : Value → List Int} {κ : SortKind} (hκ : κ = tuples' true ∨ κ = general' ∨ κ = oneType') (hu : A.units + 1 < cLine) (hp : ∀ v ∈ vs, TiV s.heap v (k v)) : SrtO.Cmp prog w A s κ (fun p => p.1 ∈ vs) (SrtO.lt2 fun v u => HT.lexLt (k v) (k u)) := by
  intro p q hm hm'
  obtain ⟨a, e1, h1⟩ := hp _ hm
  obtain ⟨b, e2, h2⟩ := hp _ hm'
  show wpAny (model prog w) A (keyLt' κ p.1 q.1) (fun r s' => s' = s ∧ r = HT.lexLt (k p.1) (k q.1)) (fun _ _ => False) s
  generalize k p.1 = x at h1 ⊢
  generalize k q.1 = y at h2 ⊢
  rw [e1, e2]
  rcases hκ with e | e | e
  · subst e
    exact ti_tuples h1 h2 ⟨rfl, rfl⟩
  · subst e
    exact one_lt_ti (x := false) h1 h2 hu ⟨rfl, rfl⟩
  · subst e
    exact one_lt_ti (x := true) h1 h2 hu ⟨rfl, rfl⟩
theorem IsTI.of_keeps {h h' : Heap} {v : Value} {ns : List Int} (x : TiV h v ns) (k : ∀ b o, h.get? b = some o → o.cls = .type "tuple" → h'.get? b = some o) : TiV h' v ns := by
  obtain ⟨q, e, t⟩ := x
  exact ⟨q, e, t.keeps k⟩
theorem tis_sortable {a : Addr} {vs : List Value} {k : Value → List Int} (hu : A.units + 1 < cLine) (h0 : 0 < vs.length) (hp : ∀ v ∈ vs, TiV s.heap v (k v)) (ha : ∀ o, s.heap.get? a = some o → o.cls ≠ .type "tuple") : SrtO.SortableO prog w A s a vs fun v u => HT.lexLt (k v) (k u) := by
  intro h' keep
  have kp : ∀ b o, s.heap.get? b = some o → o.cls = .type "tuple" → h'.get? b = some o := fun b o e c => keep b o (fun z => by subst z; exact ha o e c) e
  have hp' : ∀ v ∈ vs, TiV h' v (k v) := fun v hm => IsTI.of_keeps (hp v hm) kp
  obtain ⟨κ, hκ, hk⟩ := ti_kind (prog := prog) (w := w) (A := A) (s := { s with heap := h' }) h0 hp'
  exact ⟨κ, hk, ti_cmp hκ hu hp'⟩
/-- the keys of a dict, one by one -/
theorem rawSrc {d : Addr} {es : Array DictEntry} {ep : Nat} (lo : (d == sysModules) = false) : KdlSrc prog w "dict" d d es.size (fun i v => ∃ en, es[i]? = some en ∧ v = en.key) (fun h => DT.Raw h d es ep) where
  type := fun _ hm => hm.typeIs
  there := fun _ hm => ⟨hm.lt, hm.lt⟩
  keep := fun _ _ hm hk => hm.at' fun o e => hk d (.inl rfl) o e
  notList := by decide
  notTuple := by decide
  hint := fun _ _ _ _ hm hq => kdl_hint_dict hm.typeIs hq
  iter := fun A s hh hm => by
    obtain ⟨o, ho, hc, hdat⟩ := id hm
    refine ⟨_, fun i h => h.IsKeyIter s.heap.objs.size d i es.size ep ∧ DT.Raw h d es ep, fun _ _ hq => L2.iter_keys lo ho hc hdat hq, ?_, ⟨⟨_, Heap.get?_push_size _ rfl, rfl, rfl⟩, hm.push _⟩⟩
    have hne : d ≠ s.heap.objs.size := Nat.ne_of_lt hm.lt
    refine ⟨fun b hb => by simp at hb; simp [hb], fun i h h' st hk => ⟨st.1.at fun o e => hk _ (by simp) o e, st.2.at' fun o e => hk d (by simp) o e⟩, fun i s Q E hi st hQ => ?_, fun s Q E st hQ => ?_, fun i s Q E st hQ => wpAny_pyIter_keyiter st.1 hQ⟩
    · obtain ⟨od, hod, hoc, hdd⟩ := id st.2
      refine L2.next_key_item st.1 hod hdd rfl (Array.getElem?_eq_getElem hi) fun h' hit' hs' => ?_
      exact hQ _ h' s.toks ⟨_, Array.getElem?_eq_getElem hi, rfl⟩ ⟨hit', st.2.at' fun o e => hs'.extBut d o hne e⟩ fun b o hb e => hs'.extBut b o (fun h => hb (by simp [h])) e
    · obtain ⟨od, hod, hoc, hdd⟩ := id st.2
      exact L2.next_key_end hh st.1 hod hdd rfl (Nat.le_refl _) fun h' he' => hQ h' s.toks fun b o hb e => he' b o (fun h => hb (by simp [h])) e
end
/-! ### .. as rules of the layer -/
section
open PyProof.Rows PySem.W PySem.Calls
theorem ints_uniq : ∀ {vs : List Value} {a b : List Int}, IntsAre vs a → IntsAre vs b → a = b
  | _, _, _, .nil, .nil => rfl
  | _, _, _, .cons n t r, .cons _ _ r2 => by rw [ints_uniq r r2]
theorem IsTI.uniq {h : Heap} {q : Addr} {a b : List Int} (x : IsTI h q a) (y : IsTI h q b) : a = b := by
  obtain ⟨o, i, n, h1, h2, h3, h4⟩ := x
  obtain ⟨o', i', n', g1, g2, g3, g4⟩ := y
  rw [h1] at g1
  cases g1
  rw [h3] at g3
  have e : i = i' := by
    injection g3 with e1 e2
    simpa using e1
  subst e
  exact ints_uniq h4 g4
theorem IsEnt.uniq {h : Heap} {v : Value} {a b : List Int} (x : IsEnt h v a) (y : IsEnt h v b) : a = b := by
  obtain ⟨t, q, u, o, n, e, h1, h2, h3, h4⟩ := x
  obtain ⟨t', q', u', o', n', e', g1, g2, g3, g4⟩ := y
  rw [e] at e'
  cases e'
  rw [h1] at g1
  cases g1
  rw [h3] at g3
  have e : q = q' := by
    injection g3 with e1 e2
    simp at e1
    exact e1.1
  subst e
  exact h4.uniq g4
open Classical in
noncomputable def entK (h : Heap) (v : Value) : List Int := if hx : ∃ ns, IsEnt h v ns then Classical.choose hx else []
theorem entK_is {h : Heap} {v : Value} {ns : List Int} (x : IsEnt h v ns) : entK h v = ns := by
  have hx : ∃ ns, IsEnt h v ns := ⟨ns, x⟩
  unfold entK
  rw [dif_pos hx]
  exact (Classical.choose_spec hx).uniq x
open Classical in
noncomputable def tiK (h : Heap) (v : Value) : List Int := if hx : ∃ ns, TiV h v ns then Classical.choose hx else []
theorem TiV.uniq {h : Heap} {v : Value} {a b : List Int} (x : TiV h v a) (y : TiV h v b) : a = b := by
  obtain ⟨q, e, t⟩ := x
  obtain ⟨q', e', t'⟩ := y
  rw [e] at e'
  cases e'
  exact t.uniq t'
theorem tiK_is {h : Heap} {v : Value} {ns : List Int} (x : TiV h v ns) : tiK h v = ns := by
  have hx : ∃ ns, TiV h v ns := ⟨ns, x⟩
  unfold tiK
  rw [dif_pos hx]
  exact (Classical.choose_spec hx).uniq x
structure Ent where
  t : Addr
  q : Addr
  u : Addr
  k : List Int
def EntAt (H : Hp) (e : Ent) : Prop := H e.t = some (.tup [.ref e.q, .ref e.u]) ∧ H e.q = some (.tup (e.k.map V.int))
variable {X : Cx}
theorem ti_of {pins : List (Addr × Obj)} {σ : L2.St} {H : Hp} {s : Shared} (I : L2.Inv X pins σ H s) {q : Addr} {ns : List Int} (h : H q = some (.tup (ns.map V.int))) : IsTI s.heap q ns := by
  obtain ⟨_, its, rv, o, ho, hc, n, hd⟩ := I.hok _ _ h
  exact ⟨o, its, n, ho, hc, hd, rv.ints⟩
theorem ent_of {pins : List (Addr × Obj)} {σ : L2.St} {H : Hp} {s : Shared} (I : L2.Inv X pins σ H s) {e : Ent} (h : EntAt H e) : IsEnt s.heap (.ref e.t) e.k := by
  obtain ⟨h1, h2⟩ := h
  obtain ⟨_, its, rv, o, ho, hc, n, hd⟩ := I.hok _ _ h1
  obtain ⟨u1, u2, rfl, r1, r2⟩ := vals2 rv
  cases r1
  cases r2
  exact ⟨e.t, e.q, e.u, o, n, rfl, ho, hc, hd, ti_of I h2⟩
theorem vals_refs {α : Type} (f : α → Addr) : ∀ {l : List α} {us : List Value}, Vals (l.map fun z => V.ref (f z)) us → us = l.map fun z => Value.ref (f z)
  | [], us, h => by cases h; rfl
  | z :: l, us, h => by
    cases h with
    | cons r t =>
      cases r
      rw [vals_refs f t]
      rfl
theorem vals_refsB {α : Type} (f : α → Addr) : ∀ (l : List α), Vals (l.map fun z => V.ref (f z)) (l.map fun z => Value.ref (f z))
  | [] => .nil
  | z :: l => .cons rfl (vals_refsB f l)
theorem perm_up {α β : Type} (f : α → β) : ∀ {out : List β} {l : List α}, out.Perm (l.map f) → ∃ zs : List α, zs.Perm l ∧ zs.map f = out := by
  intro out l h
  generalize hm : l.map f = m at h
  induction h generalizing l with
  | nil =>
    cases l with
    | nil => exact ⟨[], .refl _, rfl⟩
    | cons x l => cases hm
  | @cons b out m p ih =>
    cases l with
    | nil => cases hm
    | cons x l =>
      injection hm with e1 e2
      obtain ⟨zs, pz, ez⟩ := ih e2
      exact ⟨x :: zs, pz.cons x, by rw [List.map_cons, e1, ez]⟩
  | swap b c m =>
    cases l with
    | nil => cases hm
    | cons x l =>
      cases l with
      | nil => cases hm
      | cons y l =>
        injection hm with e1 e2
        injection e2 with e2 e3
        exact ⟨y :: x :: l, .swap _ _ _, by rw [List.map_cons, List.map_cons, e1, e2, e3]⟩
  | trans p1 p2 ih1 ih2 =>
    obtain ⟨z2, q2, e2⟩ := ih2 hm
    obtain ⟨z1, q1, e1⟩ := ih1 e2
    exact ⟨z1, q1.trans q2, e1⟩
/-- sorted(xs), xs a list of pairs of a tuple of integers and an object, no two with the same integers -/
def rSortedE (K : PySem.W.Frag) : List V → Hp → VK → Prop := fun vs H Q => ∃ (a : Addr) (es : List Ent), vs = [V.ref a] ∧ SqL K H a (es.map fun e => V.ref e.t) ∧ (∀ e ∈ es, EntAt H e) ∧ (es.map (·.k)).Nodup ∧
  ∀ (es' : List Ent) (p : Addr), es'.Perm es → (es'.map (·.k)).Pairwise (fun x y => HT.lexLt x y = true) → H p = none → Q (.ref p) (upd H p (.lst (es'.map fun e => V.ref e.t)))
theorem strict_of {l : List (List Int)} (h1 : l.Pairwise (fun x y => HT.lexLt y x = false)) (h2 : l.Nodup) : l.Pairwise (fun x y => HT.lexLt x y = true) := by
  refine (List.Pairwise.and h1 h2).imp fun {x y} ⟨a, b⟩ => ?_
  cases h : HT.lexLt x y with
  | true => rfl
  | false => exact absurd (lexLt_tri _ _ h a) b
theorem cr_sortedE (hu : X.A.units + 64 < cLine) : CallR X (.builtin "sorted") (rSortedE X.K) := by
  intro pins s σ H vs us Q I r h
  obtain ⟨a, es, rfl, hs, he, hn, q⟩ := h
  obtain ⟨its, rv, hl, hz⟩ := I.list hs
  obtain ⟨u, rfl, ru⟩ := vals1 r
  obtain rfl : u = Value.ref a := ru
  have ei := vals_refs (fun e : Ent => e.t) rv
  have at_ : ∀ v ∈ its, ∃ e ∈ es, v = .ref e.t ∧ entK s.heap v = e.k ∧ IsEnt s.heap v e.k := fun v hv => by
    rw [ei] at hv
    obtain ⟨e, hm, rfl⟩ := List.mem_map.mp hv
    have x := ent_of I (he e hm)
    exact ⟨e, hm, rfl, entK_is x, x⟩
  have inj : ∀ e ∈ es, ∀ f ∈ es, e.k = f.k → e = f := fun e h1 f h2 hk => by
    obtain ⟨i, hi, ei⟩ := List.getElem_of_mem h1
    obtain ⟨j, hj, ej⟩ := List.getElem_of_mem h2
    have := List.pairwise_iff_getElem.mp hn
    rcases Nat.lt_trichotomy i j with c | c | c
    · have q := this i j (by rw [List.length_map]; exact hi) (by rw [List.length_map]; exact hj) c
      rw [List.getElem_map, List.getElem_map, ei, ej] at q
      exact absurd hk q
    · subst c
      exact ei.symm.trans ej
    · have q := this j i (by rw [List.length_map]; exact hj) (by rw [List.length_map]; exact hi) c
      rw [List.getElem_map, List.getElem_map, ei, ej] at q
      exact absurd hk.symm q
  refine sorted_ents (k := entK s.heap) (by omega) hl.isList (by rw [← rv.length]; exact hz) (fun v hv => ?_) (fun v hv u hu' hk => ?_) fun h' d out h1 h2 kp hd hn' => ?_
  · obtain ⟨e, _, _, e2, x⟩ := at_ v hv
    rw [e2]
    exact x
  · obtain ⟨e, m1, e1, e2, _⟩ := at_ v hv
    obtain ⟨f, m2, f1, f2, _⟩ := at_ u hu'
    rw [e2, f2] at hk
    rw [e1, f1, inj e m1 f m2 hk]
  · have pe := h2.perm
    rw [ei] at pe
    obtain ⟨zs, pz, ez⟩ := perm_up (fun e : Ent => Value.ref e.t) pe
    obtain ⟨n, hn'⟩ := hn'
    have srt : (zs.map (·.k)).Pairwise (fun x y => HT.lexLt y x = false) := by
      have h1' := h1
      rw [← ez] at h1'
      have h1'' := List.pairwise_map.mp h1'
      rw [List.pairwise_map]
      refine List.Pairwise.imp_of_mem (fun {x y} hx hy hxy => ?_) h1''
      have ex := entK_is (ent_of I (he x (pz.mem_iff.mp hx)))
      have ey := entK_is (ent_of I (he y (pz.mem_iff.mp hy)))
      have hxy : HT.lexLt (entK s.heap (.ref y.t)) (entK s.heap (.ref x.t)) = false := hxy
      rw [ex, ey] at hxy
      exact hxy
    have nd : (zs.map (·.k)).Nodup := (pz.map (·.k)).nodup_iff.mpr hn
    refine ⟨.ref d, upd H d (.lst (zs.map fun e => V.ref e.t)), I.laid (t' := s.toks) kp hd ⟨?_, out, n, ?_, hn'⟩, rfl, q zs d pz (strict_of srt nd) (I.hok.fresh hd)⟩
    · rw [List.length_map, pz.length_eq]
      rw [List.length_map] at hz
      exact hz
    · rw [← ez]
      exact vals_refsB (fun e : Ent => e.t) zs
/-- sorted(d), d a dict whose keys are tuples of integers: the keys themselves, in order -/
def rSortedTD : List V → Hp → VK → Prop := fun vs H Q => ∃ (a : Addr) (kvs : List (List L2.Key × V)) (ks : List (List Int)), vs = [.ref a] ∧ H a = some (.dT kvs) ∧ kvs.map (·.1) = ks.map (·.map Sum.inl) ∧
  ∀ (p : Addr) (qs : List (Addr × List Int)), (qs.map (·.2)).Perm ks → (qs.map (·.2)).Pairwise (fun x y => HT.lexLt x y = true) → (∀ z ∈ qs, H z.1 = some (.tup (z.2.map V.int))) → H p = none → Q (.ref p) (upd H p (.lst (qs.map fun z => V.ref z.1)))
theorem kv_ints (ns : List Int) : (ns.map (Sum.inl : Int → L2.Key)).map kV = ns.map V.int := by
  rw [List.map_map]
  rfl
theorem cr_sortedTD (hcalm : X.calm = true) (hu : X.A.units + 64 < cLine) : CallR X (.builtin "sorted") rSortedTD := by
  intro pins s σ H xs us Q I r h
  obtain ⟨a, kvs, ks, rfl, ha, hks, q⟩ := h
  obtain ⟨u, eu, rx⟩ := vals1 r
  subst eu
  cases rx
  obtain ⟨z, lo, xs', rel, o, es, ep, ho, hx, hdat, hes, hn⟩ := (show ObjOk X.prog X.w H s.heap a (.dT kvs) from I.hok a _ ha)
  have l1 : kvs.length = xs'.length := Paired.length rel
  have l2 : es.size = xs'.length := by
    have e := congrArg List.length hes
    rw [Array.length_toList, List.length_map] at e
    exact e
  have l3 : kvs.length = ks.length := by
    have e := congrArg List.length hks
    rw [List.length_map, List.length_map] at e
    exact e
  have hr : DT.Raw s.heap a es ep := ⟨o, ho, hx, hdat⟩
  have at_ : ∀ (j : Nat) (e : Addr × List Int), ((xs'.map (·.2.1)).zip ks)[j]? = some e → H e.1 = some (.tup (e.2.map V.int)) := by
    intro j e hj
    obtain ⟨h1, h2⟩ := List.getElem?_zip_eq_some.mp hj
    rw [List.getElem?_map] at h1
    obtain ⟨x, hx1, hx2⟩ := Option.map_eq_some_iff.mp h1
    have hjl : j < kvs.length := by
      have := (List.getElem?_eq_some_iff.mp hx1).1
      omega
    obtain ⟨b, hb, r1, r2, r3⟩ := L2.paired_get rel (List.getElem?_eq_getElem hjl)
    rw [hx1] at hb
    cases hb
    have hk : (kvs.map (·.1))[j]? = some kvs[j].1 := by rw [List.getElem?_map, List.getElem?_eq_getElem hjl]; rfl
    rw [hks, List.getElem?_map, h2] at hk
    have hk : e.2.map Sum.inl = kvs[j].1 := Option.some.inj hk
    rw [← hx2, r2, ← hk, kv_ints]
  refine Calls.call_function_entry PyProof.Rows.kind_sorted PyProof.Rows.plain_sorted PyProof.Rows.entry_sorted (PyProof.Rows.args_sorted1 _) ?_
  unfold Builtin.«sorted»
  refine wpAny_bind (m := checkCount "sorted" 1 1 _) (wpAny_pure ?_)
  refine wpAny_bind (PySem.W.kdu_collect (A := X.A.in1) (rawSrc (es := es) (ep := ep) lo) (I.ok.hd hcalm) hr (by rw [l2, ← l1]; exact z) fun h' tk acc hk hacc => ?_)
  have hal : acc.toList.length = es.size := by rw [Array.length_toList, hacc.1]
  have hae : acc.toList = ((xs'.map (·.2.1)).zip ks).map fun e => Value.ref e.1 := by
    refine List.ext_getElem? fun j => ?_
    by_cases hj : j < acc.toList.length
    · have hj2 : j < xs'.length := by omega
      obtain ⟨en, he, hv⟩ := hacc.2 j acc.toList[j] (by rw [← Array.getElem?_toList]; exact List.getElem?_eq_getElem hj)
      rw [← Array.getElem?_toList, hes, List.getElem?_map, List.getElem?_eq_getElem hj2] at he
      have he : entryOfKey (tupleKind (mixKind X.prog X.w)) xs'[j] = en := Option.some.inj he
      rw [List.getElem?_eq_getElem hj, hv, ← he, List.getElem?_map]
      have hz : ((xs'.map (·.2.1)).zip ks)[j]? = some (xs'[j].2.1, ks[j]'(by omega)) := by
        rw [List.getElem?_zip_eq_some]
        exact ⟨by rw [List.getElem?_map, List.getElem?_eq_getElem hj2]; rfl, List.getElem?_eq_getElem (by omega)⟩
      rw [hz]
      rfl
    · rw [List.getElem?_eq_none (by omega), List.getElem?_eq_none]
      rw [List.length_map, List.length_zip, List.length_map]
      omega
  have I1 : L2.Inv X pins σ H { s with heap := h', toks := tk } := I.kept hk
  refine wpAny_bind (wpAny_newList ?_ (by rw [hal, l2, ← l1]; exact z))
  have hoL : (h'.push (seqObj "list" acc.toList.toArray 0)).get? h'.objs.size = some (seqObj "list" acc.toList.toArray 0) := Heap.get?_push_size _ rfl
  have hkeep : ∀ b o, h'.get? b = some o → b ≠ h'.objs.size ∧ (h'.push (seqObj "list" acc.toList.toArray 0)).get? b = some o := fun b o e => ⟨Nat.ne_of_lt (Heap.lt_size e), Heap.get?_push_of_some _ e⟩
  show wpAny _ _ _ _ _ { s with heap := h'.push (seqObj "list" acc.toList.toArray 0), toks := tk }
  have tis : ∀ v ∈ acc.toList, TiV s.heap v (tiK s.heap v) := fun v hv => by
    rw [hae] at hv
    obtain ⟨e, hm, rfl⟩ := List.mem_map.mp hv
    obtain ⟨j, hj⟩ := List.mem_iff_getElem?.mp hm
    have x : TiV s.heap (.ref e.1) e.2 := ⟨e.1, rfl, ti_of I (at_ j e hj)⟩
    rw [tiK_is x]
    exact x
  refine wpAny_bind (wpAny_holding (wpAny_call_entry PyProof.Rows.slot_list_sort ⟨_, hoL, rfl⟩ PyProof.Rows.entry_list_sort
    (SrtO.list_sort_ord (s := { s with heap := h'.push (seqObj "list" acc.toList.toArray 0), toks := tk }) (swo_key (tiK s.heap)) hoL (by rw [hal, l2, ← l1]; exact z) (fun h2 => ?_) fun out hs hb => ⟨_, rfl, ?_⟩) (PyProof.Rows.args_list_sort _)))
  · refine tis_sortable (by
      show X.A.units + 1 + 1 + 1 < cLine
      omega) (by omega) (fun v hv => IsTI.of_keeps (tis v hv) fun b o e _ => (hkeep b o (hk b o e)).2) fun o e => ?_
    have e' : some o = some (seqObj "list" acc.toList.toArray 0) := e.symm.trans hoL
    cases e'
    intro c
    exact absurd (Value.type.inj c) (by decide)
  · have pe := hb.perm
    rw [hae] at pe
    obtain ⟨zs, pz, ez⟩ := perm_up (fun e : Addr × List Int => Value.ref e.1) pe
    obtain ⟨e', he'⟩ := PyProof.Rows.sortedHeap_at (vs := acc.toList) (out := out.toArray) hoL
    have hzk : ∀ e ∈ zs, H e.1 = some (.tup (e.2.map V.int)) := fun e hm => by
      obtain ⟨j, hj⟩ := List.mem_iff_getElem?.mp (pz.mem_iff.mp hm)
      exact at_ j e hj
    have hks2 : ((xs'.map (·.2.1)).zip ks).map (·.2) = ks := List.map_snd_zip (by rw [List.length_map]; omega)
    have pks : (zs.map (·.2)).Perm ks := by
      have q := pz.map (·.2)
      rw [hks2] at q
      exact q
    have nd : ks.Nodup := by
      have e1 : xs'.map (·.1) = ks.map (·.map Sum.inl) := by
        rw [← hks]
        clear hn hes l1 l2 l3 at_ hae hal hacc tis pe pz hks2 hks ha z
        induction rel with
        | nil => rfl
        | cons r t ih =>
          rw [List.map_cons, List.map_cons, ih, r.1]
      rw [e1] at hn
      exact List.Pairwise.of_map _ (fun a b h e => h (congrArg _ e)) hn
    have srt : (zs.map (·.2)).Pairwise (fun x y => HT.lexLt y x = false) := by
      have h1' := hs
      rw [← ez] at h1'
      have h1'' := List.pairwise_map.mp h1'
      rw [List.pairwise_map]
      refine List.Pairwise.imp_of_mem (fun {x y} hx hy hxy => ?_) h1''
      have ex := tiK_is (h := s.heap) (v := .ref x.1) ⟨x.1, rfl, ti_of I (hzk x hx)⟩
      have ey := tiK_is (h := s.heap) (v := .ref y.1) ⟨y.1, rfl, ti_of I (hzk y hy)⟩
      have hxy : HT.lexLt (tiK s.heap (.ref y.1)) (tiK s.heap (.ref x.1)) = false := hxy
      rw [ex, ey] at hxy
      exact hxy
    have hn0 : H h'.objs.size = none := I1.hok.fresh (Nat.le_refl _)
    refine wpAny_pure ⟨_, rfl, .ref h'.objs.size, upd H h'.objs.size (.lst (zs.map fun z => V.ref z.1)), I1.laid (t' := tk) (fun b u e => ?_) (Nat.le_refl _) ⟨?_, out, e', ?_, he'⟩, rfl, q h'.objs.size zs pks (strict_of srt (pks.nodup_iff.mpr nd)) hzk hn0⟩
    · exact (PyProof.Rows.sortedHeap_old (hkeep b u e).1 (Heap.lt_size (hkeep b u e).2)).trans (hkeep b u e).2
    · have e1 := pz.length_eq
      rw [List.length_map, e1, List.length_zip, List.length_map]
      omega
    · rw [← ez]
      exact vals_refsB (fun e : Addr × List Int => e.1) zs
end

/-! ### nested values, and where they stand -/
theorem hu65 {A : Around} {k : Nat} (hr : Room k A) : A.units + 65 < cLine := by
  have := hr.un
  omega
theorem ps_never {X : Cx} {st : Stmt} : PS X st (fun _ _ _ => False) := ⟨fun _ _ _ _ _ _ h => h.elim⟩
inductive Vl where
  | lf (k : Str) (r : List PyData)
  | ls (xs : List Vl)
  | mp (es : List (List Int × Vl))
def kd (k : List Int) : PyData := .tuple (k.map PyData.int)
mutual
def Vl.dat : Vl → PyData
  | .lf k r => .tuple (.str k :: r)
  | .ls xs => .tuple [.str "list", .tuple (datL xs)]
  | .mp es => .tuple [.str "map", .tuple (datM es)]
def datL : List Vl → List PyData
  | [] => []
  | x :: xs => x.dat :: datL xs
def datM : List (List Int × Vl) → List PyData
  | [] => []
  | (k, v) :: es => .tuple [kd k, v.dat] :: datM es
end
/-- leaves -/
inductive Lf : Str → List PyData → Prop
  | null : Lf "null" []
  | truth (b : Bool) : Lf "truth" [.bool b]
  | number (m e : Int) : Lf "number" [.int m, .int e]
  | bytes (os : List Int) (h : os.length ≤ 300) : Lf "bytes" [kd os]
  | text (ps : List Int) (h : ps.length ≤ 200) : Lf "text" [kd ps]
mutual
def Vl.ok : Nat → Vl → Prop
  | _, .lf k r => Lf k r
  | 0, .ls _ => False
  | n + 1, .ls xs => xs.length ≤ 49 ∧ vokL n xs
  | 0, .mp _ => False
  | n + 1, .mp es => es.length ≤ 49 ∧ (es.map (·.1)).Pairwise (fun x y => HT.lexLt x y = true) ∧ (∀ e ∈ es, e.1.length ≤ 200) ∧ vokM n es
def vokL : Nat → List Vl → Prop
  | _, [] => True
  | n, x :: xs => x.ok n ∧ vokL n xs
def vokM : Nat → List (List Int × Vl) → Prop
  | _, [] => True
  | n, (_, v) :: es => v.ok n ∧ vokM n es
end
theorem vokL_app : ∀ {n : Nat} {xs ys : List Vl}, vokL n xs → vokL n ys → vokL n (xs ++ ys)
  | _, [], _, _, h => h
  | _, x :: xs, _, h1, h2 => ⟨h1.1, vokL_app h1.2 h2⟩
theorem vokL_mem : ∀ {n : Nat} {xs : List Vl}, vokL n xs → ∀ x ∈ xs, x.ok n
  | _, [], _, x, h => absurd h (by simp)
  | _, y :: ys, h, x, hx => by
    rcases List.mem_cons.mp hx with e | e
    · rw [e]
      exact h.1
    · exact vokL_mem h.2 x e
theorem vokM_mem : ∀ {n : Nat} {es : List (List Int × Vl)}, vokM n es → ∀ e ∈ es, e.2.ok n
  | _, [], _, x, h => absurd h (by simp)
  | _, (k, v) :: ys, h, x, hx => by
    rcases List.mem_cons.mp hx with e | e
    · rw [e]
      exact h.1
    · exact vokM_mem h.2 x e
theorem vokM_of : ∀ {n : Nat} {es : List (List Int × Vl)}, (∀ e ∈ es, e.2.ok n) → vokM n es
  | _, [], _ => trivial
  | _, (k, v) :: ys, h => ⟨h _ (List.mem_cons_self ..), vokM_of fun e he => h e (List.mem_cons_of_mem _ he)⟩
theorem datL_app : ∀ (xs ys : List Vl), datL (xs ++ ys) = datL xs ++ datL ys
  | [], _ => rfl
  | x :: xs, ys => congrArg (x.dat :: ·) (datL_app xs ys)
theorem datM_map : ∀ (es : List (List Int × Vl)), datM es = es.map fun e => .tuple [kd e.1, e.2.dat]
  | [] => rfl
  | (k, v) :: es => congrArg (PyData.tuple [kd k, v.dat] :: ·) (datM_map es)
theorem datL_map : ∀ (xs : List Vl), datL xs = xs.map Vl.dat
  | [] => rfl
  | x :: xs => congrArg (x.dat :: ·) (datL_map xs)
mutual
inductive Tp (H : Hp) : V → PyData → Prop
  | non : Tp H .non .none
  | bl (b : Bool) : Tp H (.bl b) (.bool b)
  | int (i : Int) : Tp H (.int i) (.int i)
  | str (x : Str) : Tp H (.str x) (.str x)
  | tup {a : Addr} {xs : List V} {ds : List PyData} : H a = some (.tup xs) → TpAll H xs ds → Tp H (.ref a) (.tuple ds)
inductive TpAll (H : Hp) : List V → List PyData → Prop
  | nil : TpAll H [] []
  | cons {v : V} {vs : List V} {d : PyData} {ds : List PyData} : Tp H v d → TpAll H vs ds → TpAll H (v :: vs) (d :: ds)
end
/-- tuples stay -/
def Tk (H H' : Hp) : Prop := ∀ a xs, H a = some (.tup xs) → H' a = some (.tup xs)
theorem Tk.refl (H : Hp) : Tk H H := fun _ _ h => h
theorem Tk.trans {H H1 H2 : Hp} (a : Tk H H1) (b : Tk H1 H2) : Tk H H2 := fun c xs h => b c xs (a c xs h)
theorem Same.tk {H H' : Hp} (s : Same H H') : Tk H H' := fun a xs h => s a _ h
theorem tk_put {H : Hp} {a : Addr} {xs : List V} {o : HO} (h : H a = some (.lst xs)) : Tk H (upd H a o) := fun b ys hb => by
  rw [upd_ne (fun e => by rw [e, h] at hb; cases hb)]
  exact hb
theorem tk_but {H H' : Hp} {a : Addr} {xs : List V} (h : H a = some (.lst xs)) (k : ∀ b o, b ≠ a → H b = some o → H' b = some o) : Tk H H' := fun b ys hb => k b _ (fun e => by rw [e, h] at hb; cases hb) hb
theorem keep_tk {K : Frg} {S : SC} {H H' : Hp} (L : LS K S H) (k : Keep S H H') : Tk H H' := by
  obtain ⟨k1, l, f, e⟩ := L.st
  exact tk_but e fun b o n h => k b o n h
mutual
theorem Tp.tk {H H' : Hp} (k : Tk H H') : ∀ (d : PyData) (v : V), Tp H v d → Tp H' v d
  | .none, _, h => by cases h; exact .non
  | .bool b, _, h => by cases h; exact .bl b
  | .int i, _, h => by cases h; exact .int i
  | .str x, _, h => by cases h; exact .str x
  | .tuple ds, _, h => by
    cases h with
    | tup h1 h2 => exact .tup (k _ _ h1) (TpAll.tk k ds _ h2)
  | .list ds, _, h => by cases h
  | .dict ds, _, h => by cases h
theorem TpAll.tk {H H' : Hp} (k : Tk H H') : ∀ (ds : List PyData) (vs : List V), TpAll H vs ds → TpAll H' vs ds
  | [], _, h => by cases h; exact .nil
  | d :: ds, _, h => by
    cases h with
    | cons h1 h2 => exact .cons (Tp.tk k d _ h1) (TpAll.tk k ds _ h2)
end
mutual
theorem Tp.dp {K : Frg} {H : Hp} : ∀ (d : PyData) (v : V), Tp H v d → Dp K H v d
  | .none, _, h => by cases h; exact .non
  | .bool b, _, h => by cases h; exact .bl b
  | .int i, _, h => by cases h; exact .int i
  | .str x, _, h => by cases h; exact .str x
  | .tuple ds, _, h => by
    cases h with
    | tup h1 h2 => exact .tup (SqT.of h1) (TpAll.dp ds _ h2)
  | .list ds, _, h => by cases h
  | .dict ds, _, h => by cases h
theorem TpAll.dp {K : Frg} {H : Hp} : ∀ (ds : List PyData) (vs : List V), TpAll H vs ds → DpAll K H vs ds
  | [], _, h => by cases h; exact .nil
  | d :: ds, _, h => by
    cases h with
    | cons h1 h2 => exact .cons (Tp.dp d _ h1) (TpAll.dp ds _ h2)
end
theorem tp_tup {H : Hp} {v : V} {ds : List PyData} (h : Tp H v (.tuple ds)) : ∃ a xs, v = .ref a ∧ H a = some (.tup xs) ∧ TpAll H xs ds := by
  cases h with
  | tup h1 h2 => exact ⟨_, _, rfl, h1, h2⟩
theorem tp_ints {H : Hp} : ∀ (ns : List Int), TpAll H (ns.map V.int) (ns.map PyData.int)
  | [] => .nil
  | n :: ns => .cons (.int n) (tp_ints ns)
theorem tp_intsB {H : Hp} : ∀ {xs : List V} (ns : List Int), TpAll H xs (ns.map PyData.int) → xs = ns.map V.int
  | _, [], h => by
    cases h
    rfl
  | _, n :: ns, h => by
    cases h with
    | cons h t =>
      cases h
      rw [tp_intsB ns t]
      rfl
theorem tp_kd {H : Hp} {a : Addr} {ns : List Int} (h : H a = some (.tup (ns.map V.int))) : Tp H (.ref a) (kd ns) := .tup h (tp_ints ns)
theorem tp_kdB {H : Hp} {v : V} {ns : List Int} (h : Tp H v (kd ns)) : ∃ a, v = .ref a ∧ H a = some (.tup (ns.map V.int)) := by
  obtain ⟨a, xs, rfl, h1, h2⟩ := tp_tup h
  rw [tp_intsB ns h2] at h1
  exact ⟨a, rfl, h1⟩
theorem tpAll_app {H : Hp} : ∀ {xs ys : List V} {ds es : List PyData}, TpAll H xs ds → TpAll H ys es → TpAll H (xs ++ ys) (ds ++ es)
  | _, _, _, _, .nil, h => h
  | _, _, _, _, .cons h1 h2, h => .cons h1 (tpAll_app h2 h)
theorem tpAll_len {H : Hp} : ∀ {xs : List V} {ds : List PyData}, TpAll H xs ds → xs.length = ds.length
  | _, _, .nil => rfl
  | _, _, .cons _ h => congrArg (· + 1) (tpAll_len h)
theorem tpAll_get {H : Hp} : ∀ {xs : List V} {ds : List PyData} {i : Nat} {x : V}, TpAll H xs ds → xs[i]? = some x → ∃ d, ds[i]? = some d ∧ Tp H x d
  | [], _, _, _, _, e => by simp at e
  | x :: xs, _, 0, _, .cons h t, e => by
    cases (show some x = some _ from e)
    exact ⟨_, rfl, h⟩
  | x :: xs, _, i + 1, _, .cons h t, e => by
    obtain ⟨d, e1, h1⟩ := tpAll_get (i := i) t (by simpa using e)
    exact ⟨d, by simpa using e1, h1⟩
theorem lay_kds : ∀ (ks : List (List Int)), PyData.canLayAll0 (ks.map kd) = true
  | [] => rfl
  | k :: ks => by
    show (PyData.canLay0 (kd k) && PyData.canLayAll0 (ks.map kd)) = true
    rw [lay_kds ks, show PyData.canLay0 (kd k) = true from lay_kd k]
    rfl
theorem depth_kd1 (k : List Int) : (kd k).depth ≤ 1 := depth_kd k
theorem depth_kds : ∀ (ks : List (List Int)), PyData.depthAll (ks.map kd) ≤ 1
  | [] => by simp [PyData.depthAll]
  | k :: ks => by
    have e := depth_kds ks
    have e2 := depth_kd k
    show max (PyData.depth (kd k)) (PyData.depthAll (ks.map kd)) ≤ 1
    exact Nat.max_le.mpr ⟨e2, e⟩
theorem shaped_kd (k : List Int) : SeqAt.shaped (kd k) = true := by
  unfold SeqAt.shaped
  rw [show PyData.canLay0 (kd k) = true from lay_kd k, decide_eq_true (Nat.le_trans (depth_kd1 k) (by decide))]
  rfl
theorem shaped_kds (ks : List (List Int)) : SeqAt.shaped (.list (ks.map kd)) = true := by
  unfold SeqAt.shaped
  rw [show PyData.canLay0 (.list (ks.map kd)) = true from lay_kds ks, decide_eq_true]
  · rfl
  · have e := depth_kds ks
    show PyData.depthAll (ks.map kd) + 1 ≤ 64
    omega
theorem eqv_kds (k : List Int) : ∀ (ks : List (List Int)), ((ks.map kd).any fun z => PyData.eqv z (kd k)) = decide (k ∈ ks)
  | [] => rfl
  | x :: ks => by
    show (PyData.eqv (kd x) (kd k) || ((ks.map kd).any fun z => PyData.eqv z (kd k))) = _
    rw [eqv_kds k ks, show PyData.eqv (kd x) (kd k) = decide (x = k) from eqv_kd x k]
    by_cases e : x = k
    · rw [e]
      simp
    · rw [decide_eq_false e]
      have : decide (k ∈ x :: ks) = decide (k ∈ ks) := decide_eq_decide.mpr ⟨fun q => by
        rcases List.mem_cons.mp q with q | q
        · exact absurd q.symm e
        · exact q, fun q => List.mem_cons_of_mem _ q⟩
      rw [this]
      rfl

/-! ### the law's draws of values -/
abbrev s__law_normal : Stmt := (top 15)
theorem sc__law_normal : FnScope ["m", "e", "k"] ["m", "e"] (defScope s__law_normal) := ⟨rfl, rfl, rfl, by decide +kernel, rfl, by decide +kernel, by decide +kernel⟩
abbrev s__law_number : Stmt := (top 16)
theorem sc__law_number : FnScope ["state", "pick", "m", "e", "edges", "power", "k"] ["state"] (defScope s__law_number) := ⟨rfl, rfl, rfl, by decide +kernel, rfl, by decide +kernel, by decide +kernel⟩
abbrev s__law_points : Stmt := (top 17)
theorem sc__law_points : FnScope ["state", "menu", "many", "points", "k", "pick", "point"] ["state"] (defScope s__law_points) := ⟨rfl, rfl, rfl, by decide +kernel, rfl, by decide +kernel, by decide +kernel⟩
abbrev s__law_octets : Stmt := (top 18)
theorem sc__law_octets : FnScope ["state", "many", "low", "span", "k"] ["state"] (defScope s__law_octets) := ⟨rfl, rfl, rfl, by decide +kernel, rfl, by decide +kernel, by decide +kernel⟩
abbrev s__law_leaf : Stmt := (top 19)
theorem sc__law_leaf : FnScope ["state", "kinds", "kind"] ["state", "kinds"] (defScope s__law_leaf) := ⟨rfl, rfl, rfl, by decide +kernel, rfl, by decide +kernel, by decide +kernel⟩
abbrev s__law_value : Stmt := (top 20)
theorem sc__law_value : FnScope ["state", "deep", "kinds", "has_maps", "pick", "many", "k", "entries", "key", "entry"] ["state", "deep", "kinds", "has_maps"] (defScope s__law_value) := ⟨rfl, rfl, rfl, by decide +kernel, rfl, by decide +kernel, by decide +kernel⟩
def sp__law_normal : Sp := sp2 fun a b H Q _ => ∃ m e : Int, a = .int m ∧ b = .int e ∧ ∀ (p : Addr) (m' e' : Int) (H' : Hp), H p = none → H' p = some (.tup [.int m', .int e']) → Same H H' → Q (.ref p) H'
def sp__law_number (K : Frg) : Sp := sp1 fun a H Q _ => ∃ S, a = .ref S.a ∧ LS K S H ∧ ∀ (v : V) (m e : Int) (H' : Hp), Tp H' v (.tuple [.str "number", .int m, .int e]) → LS K S H' → Keep S H H' → Q v H'
def sp__law_points (K : Frg) : Sp := sp1 fun a H Q _ => ∃ S, a = .ref S.a ∧ LS K S H ∧ ∀ (p : Addr) (ps : List Int) (H' : Hp), H' p = some (.tup (ps.map V.int)) → ps.length ≤ 200 → LS K S H' → Keep S H H' → Q (.ref p) H'
def sp__law_octets (K : Frg) : Sp := sp1 fun a H Q _ => ∃ S, a = .ref S.a ∧ LS K S H ∧ ∀ (p : Addr) (os : List Int) (H' : Hp), H' p = some (.tup (os.map V.int)) → os.length ≤ 300 → LS K S H' → Keep S H H' → Q (.ref p) H'
def sp__law_leaf (K : Frg) : Sp := sp2 fun a b H Q _ => ∃ S p kinds, a = .ref S.a ∧ b = .ref p ∧ LS K S H ∧ p ≠ S.a ∧ H p = some (.lst (kinds.map V.str)) ∧ kinds ≠ [] ∧ ∀ (v : V) (k : Str) (r : List PyData) (H' : Hp), Lf k r → Tp H' v (.tuple (.str k :: r)) → LS K S H' → Keep S H H' → Q v H'
def sp__law_value (K : Frg) (n : Nat) : Sp := sp4 fun a d b c H Q _ => ∃ S p kinds hm, ∃ deep : Nat, a = .ref S.a ∧ d = .int (deep : Nat) ∧ deep < n ∧ b = .ref p ∧ c = .bl hm ∧ LS K S H ∧ p ≠ S.a ∧ H p = some (.lst (kinds.map V.str)) ∧ kinds ≠ [] ∧
  ∀ (v : V) (t : Vl) (H' : Hp), t.ok deep → Tp H' v t.dat → LS K S H' → Keep S H H' → Q v H'
theorem no__law_value {K : Frg} {vs : List V} {H : Hp} {Q : VK} {E : XK} (h : sp__law_value K 0 vs H Q E) : False := by
  obtain ⟨_, _, _, _, rfl, S, p, kinds, hm, deep, _, _, h, _⟩ := h
  exact absurd h (Nat.not_lt_zero _)
theorem turn10b {x r : Int} {i : Nat} (h : x.natAbs < 10 ^ (60 + 41 * i)) (h0 : 0 ≤ r) (h1 : r < 1000) : (x * (10 ^ 40 + 7) + r).natAbs < 10 ^ (60 + 41 * (i + 1)) := by
  have e : 60 + 41 * (i + 1) = (60 + 41 * i) + 41 := by omega
  rw [e, Nat.pow_add]
  have e41 : (10 : Nat) ^ 41 = 100000000000000000000000000000000000000000 := by decide
  have e40 : (10 : Int) ^ 40 + 7 = 10000000000000000000000000000000000000007 := by decide
  rw [e41, e40]
  omega
def edges13 : List Int := [23, 24, 127, 128, 255, 256, 65535, 65536, 2 ^ 31, 2 ^ 32, 2 ^ 63, 2 ^ 64, 10 ^ 30]
section
variable {P : Program} {w : World} {K : PySem.W.Frag} {mg : Str → Option Value} {base : Heap} {f : Addr} {fd : FuncData}
theorem ok__law_normal (F : FunD K "_law_normal" "_law_normal" (defArgs s__law_normal) (defBody s__law_normal) (defScope s__law_normal) [] [] (glAd "_law_normal" K) fd) (m : mg "_law_normal" = some (.ref (glAd "_law_normal" K))) (nb : Nm K mg) : Cal P w K mg base 1 "_law_normal" sp__law_normal [] := by
  refine calD F m sc__law_normal (fun _ _ _ _ _ _ us hl => match us, hl with | [_, _], _ => rfl) len2 (fun cdv A outer s H vs Q E hr h => ⟨_, (pss_cons (ps_if (pt_cmpR op_eq (pv 0) pe_int (nomark _))
    (pss_one (ps_ret (pe_tup (pa_cons pe_int (pa_cons pe_int pa_nil)))))
    pss_nil)
    (pss_cons (ps_for PassesOwn.never rfl (pi_range1 rfl nb.range (pa_cons pe_int pa_nil)) (pg_name (i := 2) sc__law_normal.nd rfl (Or.inl rfl))
    (pss_cons (ps_if (pt_cmpR op_ne (pe_op op_mod (pv 0) pe_int) pe_int (nomark _))
    (pss_one (ps_ret (pe_tup (pa_cons (pv 0) (pa_cons (pv 1) pa_nil)))))
    pss_nil)
    (pss_cons (ps_set (i := 0) sc__law_normal.nd rfl (Or.inl rfl) (pe_op op_fdiv (pv 0) pe_int))
    (pss_one (ps_set (i := 1) sc__law_normal.nd rfl (Or.inl rfl) (pe_op op_add (pv 1) pe_int))))))
    (pss_one (ps_ret (pe_tup (pa_cons (pv 0) (pa_cons (pv 1) pa_nil))))))), ?_⟩)
  obtain ⟨_, _, rfl, m, e, rfl, rfl, h⟩ := h
  walk_at "rd"
  refine r_ite (fun c => ?_) (fun c => ?_)
  · walk_at "rd"
    exact ⟨by show 2 ≤ sizeLine; decide, fun p hp => h p _ _ _ hp upd_same (same_upd hp _)⟩
  walk_at "rd"
  refine r_turns (by decide) (by decide) (fun i σ H' => H = H' ∧ ∃ (m' e' : Int) (y : Option V), σ = [some (.int m'), some (.int e'), y]) ⟨rfl, m, e, none, rfl⟩ ?_ ?_
  · rintro i σ _ hi ⟨rfl, m', e', y, rfl⟩
    walk_at "rd"
    refine r_iten (fun c => ?_) (fun c => ?_)
    · walk_at "rd"
      exact ⟨by show 2 ≤ sizeLine; decide, fun p hp => h p _ _ _ hp upd_same (same_upd hp _)⟩
    · walk_at "rd"
      exact ⟨rfl, _, _, _, rfl⟩
  · rintro σ _ ⟨rfl, m', e', y, rfl⟩
    walk_at "rd"
    exact ⟨by show 2 ≤ sizeLine; decide, fun p hp => h p _ _ _ hp upd_same (same_upd hp _)⟩
theorem ok__law_number (F : FunD K "_law_number" "_law_number" (defArgs s__law_number) (defBody s__law_number) (defScope s__law_number) [] [] (glAd "_law_number" K) fd) (m : mg "_law_number" = some (.ref (glAd "_law_number" K))) (nb : Nm K mg) (c__law_next : Cal P w K mg base 1 "_law_next" (sp__law_next K) []) (c__law_big : Cal P w K mg base 2 "_law_big" (sp__law_big K) []) (c__law_normal : Cal P w K mg base 1 "_law_normal" sp__law_normal []) : Cal P w K mg base 3 "_law_number" (sp__law_number K) [] := by
  refine calD F m sc__law_number (fun _ _ _ _ _ _ us hl => match us, hl with | [_], _ => rfl) len1 (fun cdv A outer s H vs Q E hr h => ⟨_, (pss_cons (ps_set (i := 1) sc__law_number.nd rfl (Or.inl rfl) (pe_c c__law_next hr (by decide) rfl (pa_cons (pv 0) (pa_cons pe_int pa_nil))))
    (pss_cons (ps_set (i := 2) sc__law_number.nd rfl (Or.inl rfl) (pe_c c__law_next hr (by decide) rfl (pa_cons (pv 0) (pa_cons pe_int pa_nil))))
    (pss_cons (ps_set (i := 3) sc__law_number.nd rfl (Or.inl rfl) pe_int)
    (pss_cut (ps_if (pt_cmpR op_in_seq (pv 1) (pe_lst (pa_cons pe_int (pa_cons pe_int pa_nil))) rfl)
    (pss_cons (ps_set (i := 4) sc__law_number.nd rfl (Or.inl rfl) (pe_lst (pa_cons pe_int (pa_cons pe_int (pa_cons pe_int (pa_cons pe_int (pa_cons pe_int (pa_cons pe_int (pa_cons pe_int (pa_cons pe_int (pa_cons (pe_op op_pow pe_int pe_int) (pa_cons (pe_op op_pow pe_int pe_int) (pa_cons (pe_op op_pow pe_int pe_int) (pa_cons (pe_op op_pow pe_int pe_int) (pa_cons (pe_op op_pow pe_int pe_int) pa_nil)))))))))))))))
    (pss_one (ps_set (i := 2) sc__law_number.nd rfl (Or.inl rfl) (pe_op op_sub (pe_op op_add (pe_ix ix_list (pv 4) (pe_c c__law_next hr (by decide) rfl (pa_cons (pv 0) (pa_cons pe_int pa_nil))) (fun _ _ => rfl)) (pe_c c__law_next hr (by decide) rfl (pa_cons (pv 0) (pa_cons pe_int pa_nil)))) pe_int))))
    (pss_one (ps_if (pt_cmpR op_in_seq (pv 1) (pe_lst (pa_cons pe_int (pa_cons pe_int (pa_cons pe_int pa_nil)))) rfl)
    (pss_cons (ps_set (i := 2) sc__law_number.nd rfl (Or.inl rfl) (pe_c c__law_next hr (by decide) rfl (pa_cons (pv 0) (pa_cons pe_int pa_nil))))
    (pss_one (ps_set (i := 3) sc__law_number.nd rfl (Or.inl rfl) (pe_op op_sub (pe_c c__law_next hr (by decide) rfl (pa_cons (pv 0) (pa_cons pe_int pa_nil))) pe_int))))
    (pss_one (ps_if (pt_cmpR op_eq (pv 1) pe_int (nomark _))
    (pss_cons (ps_set (i := 2) sc__law_number.nd rfl (Or.inl rfl) (pe_op op_add pe_int (pe_c c__law_next hr (by decide) rfl (pa_cons (pv 0) (pa_cons pe_int pa_nil)))))
    (pss_one (ps_set (i := 3) sc__law_number.nd rfl (Or.inl rfl) (pe_ix ix_list (pe_lst (pa_cons pe_int (pa_cons pe_int (pa_cons pe_int (pa_cons pe_int (pa_cons pe_int (pa_cons pe_int (pa_cons pe_int (pa_cons pe_int (pa_cons (pe_un un_neg pe_int) (pa_cons (pe_un un_neg pe_int) pa_nil))))))))))) (pe_c c__law_next hr (by decide) rfl (pa_cons (pv 0) (pa_cons pe_int pa_nil))) (fun _ _ => rfl)))))
    (pss_one (ps_if (pt_cmpR op_gt (pv 1) pe_int (nomark _))
    (pss_cons (ps_set (i := 5) sc__law_number.nd rfl (Or.inl rfl) pe_int)
    (pss_cons (ps_for PassesOwn.never rfl (pi_range1 rfl nb.range (pa_cons (pe_c c__law_next hr (by decide) rfl (pa_cons (pv 0) (pa_cons pe_int pa_nil))) pa_nil)) (pg_name (i := 6) sc__law_number.nd rfl (Or.inl rfl))
    (pss_one (ps_set (i := 5) sc__law_number.nd rfl (Or.inl rfl) (pe_op op_mul (pv 5) pe_int))))
    (pss_cons (ps_set (i := 2) sc__law_number.nd rfl (Or.inl rfl) (pe_c c__law_big hr (by decide) rfl (pa_cons (pv 0) (pa_cons (pv 5) pa_nil))))
    (pss_cons (ps_set (i := 3) sc__law_number.nd rfl (Or.inl rfl) (pe_op op_sub (pe_c c__law_next hr (by decide) rfl (pa_cons (pv 0) (pa_cons pe_int pa_nil))) pe_int))
    (pss_one (ps_if (PW.pt (pw_and (pt_cmpR op_eq (pv 1) pe_int (nomark _)) (pw_and1 (pt_cmpR op_gt (pe_ix ix_list (pv 0) pe_int (fun _ _ => rfl)) pe_int (nomark _)))))
    (pss_cons (ps_asg (pe_op op_sub (pe_ix ix_list (pv 0) pe_int (fun _ _ => rfl)) pe_int) (pg_sub (pv 0) pe_int set_list))
    (pss_one (ps_for PassesOwn.never rfl (pi_range1 rfl nb.range (pa_cons (pe_c c__law_next hr (by decide) rfl (pa_cons (pv 0) (pa_cons pe_int pa_nil))) pa_nil)) (pg_name (i := 6) sc__law_number.nd rfl (Or.inl rfl))
    (pss_one (ps_set (i := 2) sc__law_number.nd rfl (Or.inl rfl) (pe_op op_add (pe_op op_mulX (pv 2) (pe_op op_add (pe_op op_pow pe_int pe_int) pe_int)) (pe_c c__law_next hr (by decide) rfl (pa_cons (pv 0) (pa_cons pe_int pa_nil)))))))))
    pss_nil))))))
    pss_nil)))))))
    (pss_cons (ps_asg (pe_c c__law_normal hr (by decide) rfl (pa_cons (pe_ix ix_list (pe_lst (pa_cons (pv 2) (pa_cons (pe_un un_neg (pv 2)) pa_nil))) (pe_c c__law_next hr (by decide) rfl (pa_cons (pv 0) (pa_cons pe_int pa_nil))) (fun _ _ => rfl)) (pa_cons (pv 3) pa_nil))) (pg_tup rfl (pgs_cons (pg_name (i := 2) sc__law_number.nd rfl (Or.inl rfl)) (pgs_cons (pg_name (i := 3) sc__law_number.nd rfl (Or.inl rfl)) pgs_nil))))
    (pss_one (ps_ret (pe_tup (pa_cons pe_str (pa_cons (pv 2) (pa_cons (pv 3) pa_nil))))))))))), ?_⟩)
  obtain ⟨_, rfl, S, rfl, L, h⟩ := h
  walk_at "rd"
  refine d_next L (by decide) fun pick H1 a1 b1 L1 k1 => ?_
  walk_at "rd"
  refine d_next L1 (by decide) fun m0 H2 a2 b2 L2 k2 => ?_
  have k02 := k1.trans k2
  clear k1 k2 L1
  walk_at "rd"
  refine r_cut (fun σ H' => LS K S H' ∧ Keep S H H' ∧ ∃ (m e : Int) (y4 y5 y6 : Option V), σ = [some (.ref S.a), some (.int pick), some (.int m), some (.int e), y4, y5, y6]) ?_ ?_
  · walk_at "rd"
    refine ⟨by show 2 ≤ sizeLine; decide, fun p3 n3 => ?_⟩
    have L3 := L2.new n3 (.lst [.int 4, .int 5])
    have k3 := k02.trans (Keep.of (same_upd n3 (.lst [.int 4, .int 5])))
    refine ⟨p3, [.int 4, .int 5], rfl, .inl (SqL.of upd_same), rfl, rfl, ?_⟩
    generalize upd H2 p3 (.lst [.int 4, .int 5]) = H3 at L3 k3 ⊢
    clear L2 k02
    refine r_bl (r_ifTF (fun _ => ?_) (fun _ => ?_))
    · walk_at "rd"
      refine ⟨by show 13 ≤ sizeLine; decide, fun p4 n4 => ?_⟩
      have hE : upd H3 p4 (.lst (edges13.map V.int)) p4 = some (.lst (edges13.map V.int)) := upd_same
      have L4 := L3.new n4 (.lst (edges13.map V.int))
      have k4 := k3.trans (Keep.of (same_upd n4 (.lst (edges13.map V.int))))
      have pa := L3.ne_free n4
      walk_at "rd"
      refine d_next L4 (by decide) fun r5 H5 a5 b5 L5 k5 => ?_
      obtain ⟨v, hv, ev⟩ := atI_ints (ns := edges13) (k := r5) a5 b5
      refine r_ixL (SqL.of (k5 _ _ pa hE)) ev ?_
      walk_at "rd"
      refine d_next L5 (by decide) fun r6 H6 a6 b6 L6 k6 => ?_
      walk_at "rd"
      exact ⟨L6, (k4.trans k5).trans k6, _, _, _, _, _, rfl⟩
    · walk_at "rd"
      refine ⟨by show 3 ≤ sizeLine; decide, fun p4 n4 => ?_⟩
      have L4 := L3.new n4 (.lst [.int 6, .int 7, .int 8])
      have k4 := k3.trans (Keep.of (same_upd n4 (.lst [.int 6, .int 7, .int 8])))
      refine ⟨p4, [.int 6, .int 7, .int 8], rfl, .inl (SqL.of upd_same), rfl, rfl, ?_⟩
      generalize upd H3 p4 (.lst [.int 6, .int 7, .int 8]) = H4 at L4 k4 ⊢
      clear L3 k3
      refine r_bl (r_ifTF (fun _ => ?_) (fun _ => ?_))
      · walk_at "rd"
        refine d_next L4 (by decide) fun r5 H5 a5 b5 L5 k5 => ?_
        walk_at "rd"
        refine d_next L5 (by decide) fun r6 H6 a6 b6 L6 k6 => ?_
        walk_at "rd"
        exact ⟨L6, (k4.trans k5).trans k6, _, _, _, _, _, rfl⟩
      walk_at "rd"
      refine r_ite (fun c => ?_) (fun c => ?_)
      · walk_at "rd"
        refine d_next L4 (by decide) fun r5 H5 a5 b5 L5 k5 => ?_
        walk_at "rd"
        refine d_pickI (-400) 800 L5 rfl (by show 10 ≤ sizeLine; decide) (by decide) rfl (all_cons ⟨_, rfl, by omega, by omega⟩ (all_cons ⟨_, rfl, by omega, by omega⟩ (all_cons ⟨_, rfl, by omega, by omega⟩ (all_cons ⟨_, rfl, by omega, by omega⟩ (all_cons ⟨_, rfl, by omega, by omega⟩ (all_cons ⟨_, rfl, by omega, by omega⟩ (all_cons ⟨_, rfl, by omega, by omega⟩ (all_cons ⟨_, rfl, by omega, by omega⟩ (all_cons ⟨_, rfl, by omega, by omega⟩ (all_cons ⟨_, rfl, by omega, by omega⟩ all_nil)))))))))) fun z H6 _ _ _ L6 k6 => ?_
        walk_at "rd"
        exact ⟨L6, (k4.trans k5).trans k6, _, _, _, _, _, rfl⟩
      walk_at "rd"
      refine r_ite (fun c => ?_) (fun c => ?_)
      · walk_at "rd"
        refine d_next L4 (by decide) fun r5 H5 a5 b5 L5 k5 => ?_
        have k5 := k4.trans k5
        walk_at "rd"
        refine r_turns (by omega) (by omega) (fun i σ H' => H5 = H' ∧ ∃ (y6 : Option V), σ = [some (.ref S.a), some (.int pick), some (.int m0), some (.int 0), none, some (.int (10 ^ (i + 1))), y6]) ⟨rfl, none, rfl⟩ ?_ ?_
        · rintro i σ _ hi ⟨rfl, y6, rfl⟩
          walk_at "rd"
          exact ⟨rfl, _, by rw [show (10 : Int) ^ (i + 1 + 1) = 10 ^ (i + 1) * 10 from Int.pow_succ _ _]; rfl⟩
        rintro σ _ ⟨rfl, y6, rfl⟩
        walk_at "rd"
        refine d_next L5 (Int.pow_pos (by decide)) fun r6 H6 a6 b6 L6 k6 => ?_
        have e6 : r6.natAbs < 10 ^ (60 + 41 * 0) := by
          have h1 : (10 : Int) ^ (r5.toNat + 1) ≤ 10 ^ 60 := by
            have h2 := pow10_le (a := r5.toNat + 1) (b := 60) (by omega)
            exact_mod_cast h2
          have : (10 : Int) ^ 60 = ((10 ^ 60 : Nat) : Int) := by rw [Int.natCast_pow]; rfl
          omega
        have k6 := k5.trans k6
        walk_at "rd"
        refine d_next L6 (by decide) fun r7 H7 a7 b7 L7 k7 => ?_
        have k7 := k6.trans k7
        walk_at "rd"
        obtain ⟨kk, l, f5, e⟩ := L7.st
        refine r_ite (fun c => ?_) (fun c => ?_)
        · walk_at "rd"
          refine r_ixL (SqL.of e) rfl ?_
          walk_at "rd"
          refine r_ite (fun c => ?_) (fun c => ?_)
          · walk_at "rd"
            refine r_ixL (SqL.of e) rfl ?_
            walk_at "rd"
            refine r_setL e rfl ?_
            walk_at "rd"
            have L8 := L7.put kk l (f5 - 1)
            have k8 := k7.trans (Keep.put (H := H7) (.lst [.ref S.nl, .int kk, .int l, .ref S.sl, .int (f5 - 1)]))
            refine d_next L8 (by decide) fun r9 H9 a9 b9 L9 k9 => ?_
            have k9 := k8.trans k9
            walk_at "rd"
            refine r_turns (by omega) (by omega) (fun i σ H' => LS K S H' ∧ Keep S H H' ∧ ∃ (x : Int) (y6 : Option V), x.natAbs < 10 ^ (60 + 41 * i) ∧ σ = [some (.ref S.a), some (.int pick), some (.int x), some (.int (r7 - 45)), none, some (.int (10 ^ (r5.toNat + 1))), y6]) ⟨L9, k9, r6, _, e6, rfl⟩ ?_ ?_
            · rintro i σ H10 hi ⟨L10, k10, x, y6', hx, rfl⟩
              walk_at "rd"
              refine r_I (mulx_ok (abs10 hx) (b := 200) (by decide +kernel) (by omega)) ?_
              walk_at "rd"
              refine d_next L10 (by decide) fun r11 H11 a11 b11 L11 k11 => ?_
              walk_at "rd"
              exact ⟨L11, k10.trans k11, _, _, turn10b hx a11 b11, rfl⟩
            · rintro σ H10 ⟨L10, k10, x, y6', hx, rfl⟩
              walk_at "rd"
              exact ⟨L10, k10, _, _, _, _, _, rfl⟩
          · walk_at "rd"
            exact ⟨L7, k7, _, _, _, _, _, rfl⟩
        · walk_at "rd"
          exact ⟨L7, k7, _, _, _, _, _, rfl⟩
      · walk_at "rd"
        exact ⟨L4, k4, _, _, _, _, _, rfl⟩
  · rintro σ H3 ⟨L3, k3, m, e, y4, y5, y6, rfl⟩
    walk_at "rd"
    refine d_pick (xs := [.int m, .int (-m)]) L3 rfl (by show 2 ≤ sizeLine; decide) (by decide) rfl fun v H4 hv L4 k4 => ?_
    obtain ⟨z, rfl⟩ : ∃ z, v = V.int z := by
      rcases List.mem_cons.mp hv with e | e
      · exact ⟨_, e⟩
      · exact ⟨_, by simpa using e⟩
    walk_at "rd"
    refine ⟨_, _, rfl, z, e, rfl, rfl, fun p m' e' H5 np hp s5 => ?_⟩
    refine r_gtup (SqT.of hp) rfl ?_
    walk_at "rd"
    refine ⟨by show 3 ≤ sizeLine; decide, fun q nq => ?_⟩
    have L6 := (L4.same s5).new nq (.tup [.str "number", .int m', .int e'])
    exact h (.ref q) m' e' _ (.tup upd_same (.cons (.str _) (.cons (.int _) (.cons (.int _) .nil)))) L6 (((k3.trans k4).trans (Keep.of s5)).trans (Keep.of (same_upd nq _)))
end

section
variable {P : Program} {w : World} {K : PySem.W.Frag} {mg : Str → Option Value} {base : Heap} {f : Addr} {fd : FuncData}
/-- a list that was new at H stays one's own: the rest of the state is kept -/
theorem keep_away {S : SC} {H H' : Hp} {D : Addr} {o : HO} (k : Keep S H H') (n : H D = none) : Keep S H (upd H' D o) := fun b u hb h => by
  rw [upd_ne (fun e => by rw [e, n] at h; cases h)]
  exact k b u hb h
def menu12 : List Int := [34, 92, 47, 127, 128, 2047, 2048, 55295, 57344, 65535, 65536, 1114111]
theorem ok__law_points (F : FunD K "_law_points" "_law_points" (defArgs s__law_points) (defBody s__law_points) (defScope s__law_points) [] [] (glAd "_law_points" K) fd) (m : mg "_law_points" = some (.ref (glAd "_law_points" K))) (nb : Nm K mg) (c__law_next : Cal P w K mg base 1 "_law_next" (sp__law_next K) []) : Cal P w K mg base 2 "_law_points" (sp__law_points K) [] := by
  refine calD F m sc__law_points (fun _ _ _ _ _ _ us hl => match us, hl with | [_], _ => rfl) len1 (fun cdv A outer s H vs Q E hr h => ⟨_, (pss_cons (ps_set (i := 1) sc__law_points.nd rfl (Or.inl rfl) (pe_lst (pa_cons pe_int (pa_cons pe_int (pa_cons pe_int (pa_cons pe_int (pa_cons pe_int (pa_cons pe_int (pa_cons pe_int (pa_cons pe_int (pa_cons pe_int (pa_cons pe_int (pa_cons pe_int (pa_cons pe_int pa_nil))))))))))))))
    (pss_cons (ps_set (i := 2) sc__law_points.nd rfl (Or.inl rfl) (pe_c c__law_next hr (by decide) rfl (pa_cons (pv 0) (pa_cons pe_int pa_nil))))
    (pss_cut (ps_if (PW.pt (pw_and (pt_cmpR op_gt (pe_ix ix_list (pv 0) pe_int (fun _ _ => rfl)) pe_int (nomark _)) (pw_and1 (pt_cmpR op_eq (pe_c c__law_next hr (by decide) rfl (pa_cons (pv 0) (pa_cons pe_int pa_nil))) pe_int (nomark _)))))
    (pss_cons (ps_asg (pe_op op_sub (pe_ix ix_list (pv 0) pe_int (fun _ _ => rfl)) pe_int) (pg_sub (pv 0) pe_int set_list))
    (pss_one (ps_set (i := 2) sc__law_points.nd rfl (Or.inl rfl) (pe_op op_add pe_int (pe_c c__law_next hr (by decide) rfl (pa_cons (pv 0) (pa_cons pe_int pa_nil)))))))
    pss_nil)
    (pss_cons (ps_set (i := 3) sc__law_points.nd rfl (Or.inl rfl) (pe_lst pa_nil))
    (pss_cons (ps_for PassesOwn.never rfl (pi_range1 rfl nb.range (pa_cons (pv 2) pa_nil)) (pg_name (i := 4) sc__law_points.nd rfl (Or.inl rfl))
    (pss_cons (ps_set (i := 5) sc__law_points.nd rfl (Or.inl rfl) (pe_c c__law_next hr (by decide) rfl (pa_cons (pv 0) (pa_cons pe_int pa_nil))))
    (pss_cons (ps_set (i := 6) sc__law_points.nd rfl (Or.inl rfl) (pe_op op_add pe_int (pe_c c__law_next hr (by decide) rfl (pa_cons (pv 0) (pa_cons pe_int pa_nil)))))
    (pss_cut (ps_if (pt_cmpR op_eq (pv 5) pe_int (nomark _))
    (pss_one (ps_set (i := 6) sc__law_points.nd rfl (Or.inl rfl) (pe_ix ix_list (pv 1) (pe_c c__law_next hr (by decide) rfl (pa_cons (pv 0) (pa_cons pe_int pa_nil))) (fun _ _ => rfl))))
    pss_nil)
    (pss_cut (ps_if (pt_cmpR op_eq (pv 5) pe_int (nomark _))
    (pss_one (ps_set (i := 6) sc__law_points.nd rfl (Or.inl rfl) (pe_c c__law_next hr (by decide) rfl (pa_cons (pv 0) (pa_cons pe_int pa_nil)))))
    pss_nil)
    (pss_cut (ps_if (pt_cmpR op_eq (pv 5) pe_int (nomark _))
    (pss_cons (ps_set (i := 6) sc__law_points.nd rfl (Or.inl rfl) (pe_op op_add (pe_op op_mul pe_int (pe_c c__law_next hr (by decide) rfl (pa_cons (pv 0) (pa_cons pe_int pa_nil)))) (pe_c c__law_next hr (by decide) rfl (pa_cons (pv 0) (pa_cons pe_int pa_nil)))))
    (pss_one (ps_set (i := 6) sc__law_points.nd rfl (Or.inl rfl) (pe_op op_add (pv 6) (pe_op op_mul pe_int (pe_callTy call_int1 (by rfl) nb.int (by decide +kernel) (pa_cons (pe_cmpR op_gt (pv 6) pe_int (nomark _)) pa_nil)))))))
    pss_nil)
    (pss_one (ps_expr (pe_bm PySem.F.plainAttrs_list PySem.F.slot_list_append PySem.F.type_list_append mt_append (pv 3) (pa_cons (pv 6) pa_nil))))))))))
    (pss_one (ps_ret (pe_callTy call_tuple_of (by rfl) nb.tuple (by decide +kernel) (pa_cons (pv 3) pa_nil))))))))), ?_⟩)
  obtain ⟨_, rfl, S, rfl, L, h⟩ := h
  walk_at "rd"
  refine ⟨by show 12 ≤ sizeLine; decide, fun pm nm => ?_⟩
  have hM1 : upd H pm (.lst (menu12.map V.int)) pm = some (.lst (menu12.map V.int)) := upd_same
  have L1 := L.new nm (.lst (menu12.map V.int))
  have k1 : Keep S H (upd H pm (.lst (menu12.map V.int))) := Keep.of (same_upd nm _)
  have pS := L.ne_free nm
  walk_at "rd"
  refine d_next L1 (by decide) fun m0 H2 a2 b2 L2 k2 => ?_
  have hM2 := k2 _ _ pS hM1
  have k2 := k1.trans k2
  clear L1 k1 hM1
  walk_at "rd"
  refine r_cut (fun σ H' => LS K S H' ∧ Keep S H H' ∧ H' pm = some (.lst (menu12.map V.int)) ∧ ∃ (m : Int), 0 ≤ m ∧ m ≤ 139 ∧ σ = [some (.ref S.a), some (.ref pm), some (.int m), none, none, none, none]) ?_ ?_
  · walk_at "rd"
    obtain ⟨kk, l, f5, e⟩ := L2.st
    refine r_ixL (SqL.of e) rfl ?_
    walk_at "rd"
    refine r_ite (fun c => ?_) (fun c => ?_)
    · walk_at "rd"
      refine d_next L2 (by decide) fun r3 H3 a3 b3 L3 k3 => ?_
      have hM3 := k3 _ _ pS hM2
      have k3 := k2.trans k3
      walk_at "rd"
      refine r_ite (fun c => ?_) (fun c => ?_)
      · walk_at "rd"
        obtain ⟨kk, l, f5, e⟩ := L3.st
        refine r_ixL (SqL.of e) rfl ?_
        walk_at "rd"
        refine r_setL e rfl ?_
        walk_at "rd"
        have L4 := L3.put kk l (f5 - 1)
        have k4 := k3.trans (Keep.put (H := H3) (.lst [.ref S.nl, .int kk, .int l, .ref S.sl, .int (f5 - 1)]))
        have hM4 := (Keep.put (S := S) (H := H3) (.lst [.ref S.nl, .int kk, .int l, .ref S.sl, .int (f5 - 1)])) _ _ pS hM3
        refine d_next L4 (by decide) fun r5 H5 a5 b5 L5 k5 => ?_
        walk_at "rd"
        exact ⟨L5, k4.trans k5, k5 _ _ pS hM4, _, by omega, by omega, rfl⟩
      · walk_at "rd"
        exact ⟨L3, k3, hM3, _, a2, by omega, rfl⟩
    · walk_at "rd"
      exact ⟨L2, k2, hM2, _, a2, by omega, rfl⟩
  rintro σ H3 ⟨L3, k3, hM3, m, hm0, hm1, rfl⟩
  clear L2 k2 hM2
  walk_at "rd"
  refine ⟨Nat.zero_le _, fun D nD => ?_⟩
  have L4 := L3.new nD (.lst [])
  have DS := L3.ne_free nD
  have nD0 : H D = none := k3.free L3 nD
  have hM4 := same_upd nD (.lst []) _ _ hM3
  have Dp := ne_of_none hM3 nD
  have k4 : Keep S H (upd H3 D (.lst [])) := k3.trans (Keep.of (same_upd nD _))
  walk_at "rd"
  refine r_turns (by omega) (by omega) (fun i σ H' => LS K S H' ∧ Keep S H H' ∧ H' pm = some (.lst (menu12.map V.int)) ∧ ∃ (ps : List Int) (y4 y5 y6 : Option V), ps.length = i ∧ H' D = some (.lst (ps.map V.int)) ∧ σ = [some (.ref S.a), some (.ref pm), some (.int m), some (.ref D), y4, y5, y6]) ⟨L4, k4, hM4, [], _, _, _, rfl, upd_same, rfl⟩ ?_ ?_
  · rintro i σ H5 hi ⟨L5, k5, hM5, ps, y4, y5, y6, hl, hD5, rfl⟩
    walk_at "rd"
    refine d_next L5 (by decide) fun r6 H6 a6 b6 L6 k6 => ?_
    walk_at "rd"
    refine d_next L6 (by decide) fun r7 H7 a7 b7 L7 k7 => ?_
    have hM7 := k7 _ _ pS (k6 _ _ pS hM5)
    have hD7 := k7 _ _ DS (k6 _ _ DS hD5)
    have k7 := (k5.trans k6).trans k7
    clear L5 L6 k5 k6 hM5 hD5
    walk_at "rd"
    have mid : ∀ (H' : Hp) (pt : Int), LS K S H' → Keep S H H' → H' pm = some (.lst (menu12.map V.int)) → H' D = some (.lst (ps.map V.int)) → (fun (σ : St) (H' : Hp) => LS K S H' ∧ Keep S H H' ∧ H' pm = some (.lst (menu12.map V.int)) ∧ H' D = some (.lst (ps.map V.int)) ∧ ∃ pt : Int, σ = [some (.ref S.a), some (.ref pm), some (.int m), some (.ref D), some (.int (i : Nat)), some (.int r6), some (.int pt)]) [some (.ref S.a), some (.ref pm), some (.int m), some (.ref D), some (.int (i : Nat)), some (.int r6), some (.int pt)] H' := fun H' pt h1 h2 h3 h4 => ⟨h1, h2, h3, h4, pt, rfl⟩
    refine r_cut (fun σ H' => LS K S H' ∧ Keep S H H' ∧ H' pm = some (.lst (menu12.map V.int)) ∧ H' D = some (.lst (ps.map V.int)) ∧ ∃ pt : Int, σ = [some (.ref S.a), some (.ref pm), some (.int m), some (.ref D), some (.int (i : Nat)), some (.int r6), some (.int pt)]) ?_ ?_
    · walk_at "rd"
      refine r_ite (fun c => ?_) (fun c => ?_)
      · walk_at "rd"
        refine d_next L7 (by decide) fun r8 H8 a8 b8 L8 k8 => ?_
        obtain ⟨v, hv, ev⟩ := atI_ints (ns := menu12) (k := r8) a8 b8
        refine r_ixL (SqL.of (k8 _ _ pS hM7)) ev ?_
        exact mid H8 v L8 (k7.trans k8) (k8 _ _ pS hM7) (k8 _ _ DS hD7)
      · walk_at "rd"
        exact mid H7 _ L7 k7 hM7 hD7
    rintro σ H8 ⟨L8, k8, hM8, hD8, pt, rfl⟩
    clear L7 k7 hM7 hD7
    refine r_cut (fun σ H' => LS K S H' ∧ Keep S H H' ∧ H' pm = some (.lst (menu12.map V.int)) ∧ H' D = some (.lst (ps.map V.int)) ∧ ∃ pt : Int, σ = [some (.ref S.a), some (.ref pm), some (.int m), some (.ref D), some (.int (i : Nat)), some (.int r6), some (.int pt)]) ?_ ?_
    · walk_at "rd"
      refine r_ite (fun c => ?_) (fun c => ?_)
      · walk_at "rd"
        refine d_next L8 (by decide) fun r9 H9 a9 b9 L9 k9 => ?_
        exact mid H9 _ L9 (k8.trans k9) (k9 _ _ pS hM8) (k9 _ _ DS hD8)
      · walk_at "rd"
        exact mid H8 _ L8 k8 hM8 hD8
    rintro σ H9 ⟨L9, k9, hM9, hD9, pt, rfl⟩
    clear L8 k8 hM8 hD8
    refine r_cut (fun σ H' => LS K S H' ∧ Keep S H H' ∧ H' pm = some (.lst (menu12.map V.int)) ∧ H' D = some (.lst (ps.map V.int)) ∧ ∃ pt : Int, σ = [some (.ref S.a), some (.ref pm), some (.int m), some (.ref D), some (.int (i : Nat)), some (.int r6), some (.int pt)]) ?_ ?_
    · walk_at "rd"
      refine r_ite (fun c => ?_) (fun c => ?_)
      · walk_at "rd"
        refine d_next L9 (by decide) fun r10 H10 a10 b10 L10 k10 => ?_
        walk_at "rd"
        refine d_next L10 (by decide) fun r11 H11 a11 b11 L11 k11 => ?_
        walk_at "rd"
        refine .inr ⟨_, rfl, ?_⟩
        walk_at "rd"
        exact mid H11 _ L11 ((k9.trans k10).trans k11) (k11 _ _ pS (k10 _ _ pS hM9)) (k11 _ _ DS (k10 _ _ DS hD9))
      · walk_at "rd"
        exact mid H9 _ L9 k9 hM9 hD9
    rintro σ H10 ⟨L10, k10, hM10, hD10, pt, rfl⟩
    walk_at "rd"
    refine ⟨tyL hD10, ?_⟩
    walk_at "rd"
    refine r_app hD10 (small1000 (by rw [List.length_map]; omega)) ?_
    exact ⟨L3.away nD L10 _, keep_away k10 nD0, (upd_ne Dp).trans hM10, ps ++ [pt], _, _, _, by rw [List.length_append, hl]; rfl, by rw [upd_same, map_snoc], rfl⟩
  rintro σ H5 ⟨L5, k5, hM5, ps, y4, y5, y6, hl, hD5, rfl⟩
  walk_at "rd"
  refine ⟨D, _, rfl, .inl ⟨SqL.of hD5, fun t nt => ?_⟩⟩
  exact h t ps _ upd_same (by omega) (L5.new nt _) (k5.trans (Keep.of (same_upd nt _)))
theorem ok__law_octets (F : FunD K "_law_octets" "_law_octets" (defArgs s__law_octets) (defBody s__law_octets) (defScope s__law_octets) [] [] (glAd "_law_octets" K) fd) (m : mg "_law_octets" = some (.ref (glAd "_law_octets" K))) (nb : Nm K mg) (c__law_next : Cal P w K mg base 1 "_law_next" (sp__law_next K) []) : Cal P w K mg base 2 "_law_octets" (sp__law_octets K) [] := by
  refine calD F m sc__law_octets (fun _ _ _ _ _ _ us hl => match us, hl with | [_], _ => rfl) len1 (fun cdv A outer s H vs Q E hr h => ⟨_, (pss_cons (ps_set (i := 1) sc__law_octets.nd rfl (Or.inl rfl) (pe_c c__law_next hr (by decide) rfl (pa_cons (pv 0) (pa_cons pe_int pa_nil))))
    (pss_cut (ps_if (PW.pt (pw_and (pt_cmpR op_gt (pe_ix ix_list (pv 0) pe_int (fun _ _ => rfl)) pe_int (nomark _)) (pw_and1 (pt_cmpR op_eq (pe_c c__law_next hr (by decide) rfl (pa_cons (pv 0) (pa_cons pe_int pa_nil))) pe_int (nomark _)))))
    (pss_cons (ps_asg (pe_op op_sub (pe_ix ix_list (pv 0) pe_int (fun _ _ => rfl)) pe_int) (pg_sub (pv 0) pe_int set_list))
    (pss_one (ps_set (i := 1) sc__law_octets.nd rfl (Or.inl rfl) (pe_op op_add pe_int (pe_c c__law_next hr (by decide) rfl (pa_cons (pv 0) (pa_cons pe_int pa_nil)))))))
    pss_nil)
    (pss_cons (ps_asg (pe_ix ix_list (pe_lst (pa_cons (pe_tup (pa_cons pe_int (pa_cons pe_int pa_nil))) (pa_cons (pe_tup (pa_cons pe_int (pa_cons pe_int pa_nil))) (pa_cons (pe_tup (pa_cons pe_int (pa_cons pe_int pa_nil))) pa_nil)))) (pe_c c__law_next hr (by decide) rfl (pa_cons (pv 0) (pa_cons pe_int pa_nil))) (fun _ _ => rfl)) (pg_tup rfl (pgs_cons (pg_name (i := 2) sc__law_octets.nd rfl (Or.inr rfl)) (pgs_cons (pg_name (i := 3) sc__law_octets.nd rfl (Or.inr rfl)) pgs_nil))))
    (pss_one (ps_ret (pe_callTy call_tuple_of (by rfl) nb.tuple (by decide +kernel) (pa_cons (pe_lc (own := [("k", 4)]) (g := gName 4) (tt := tYes) rfl sc__law_octets.nd (pi_range1 rfl nb.range (pa_cons (pv 1) pa_nil)) (blkOk_by (N := ["state", "many", "low", "span", "k"]) (sc := defScope s__law_octets) (by decide +kernel)) (fun _ _ _ _ _ => pg_name (i := 4) sc__law_octets.nd rfl (Or.inl rfl)) (fun _ _ _ _ _ => pts_nil) (fun _ _ _ _ _ => (pe_op op_add (pv 2) (pe_c c__law_next hr (by decide) rfl (pa_cons (pv 0) (pa_cons (pv 3) pa_nil)))))) pa_nil))))))), ?_⟩)
  obtain ⟨_, rfl, S, rfl, L, h⟩ := h
  walk_at "rd"
  refine d_next L (by decide) fun m0 H2 a2 b2 L2 k2 => ?_
  walk_at "rd"
  refine r_cut (fun σ H' => LS K S H' ∧ Keep S H H' ∧ ∃ (m : Int), 0 ≤ m ∧ m ≤ 279 ∧ σ = [some (.ref S.a), some (.int m), none, none, none]) ?_ ?_
  · walk_at "rd"
    obtain ⟨kk, l, f5, e⟩ := L2.st
    refine r_ixL (SqL.of e) rfl ?_
    walk_at "rd"
    refine r_ite (fun c => ?_) (fun c => ?_)
    · walk_at "rd"
      refine d_next L2 (by decide) fun r3 H3 a3 b3 L3 k3 => ?_
      have k3 := k2.trans k3
      walk_at "rd"
      refine r_ite (fun c => ?_) (fun c => ?_)
      · walk_at "rd"
        obtain ⟨kk, l, f5, e⟩ := L3.st
        refine r_ixL (SqL.of e) rfl ?_
        walk_at "rd"
        refine r_setL e rfl ?_
        walk_at "rd"
        have L4 := L3.put kk l (f5 - 1)
        have k4 := k3.trans (Keep.put (H := H3) (.lst [.ref S.nl, .int kk, .int l, .ref S.sl, .int (f5 - 1)]))
        refine d_next L4 (by decide) fun r5 H5 a5 b5 L5 k5 => ?_
        walk_at "rd"
        exact ⟨L5, k4.trans k5, _, by omega, by omega, rfl⟩
      · walk_at "rd"
        exact ⟨L3, k3, _, a2, by omega, rfl⟩
    · walk_at "rd"
      exact ⟨L2, k2, _, a2, by omega, rfl⟩
  rintro σ H3 ⟨L3, k3, m, hm0, hm1, rfl⟩
  clear L2 k2
  walk_at "rd"
  refine ⟨by show 2 ≤ sizeLine; decide, fun t1 nt1 => ?_⟩
  have s1 := same_upd nt1 (.tup [.int 0, .int 256])
  walk_at "rd"
  refine ⟨by show 2 ≤ sizeLine; decide, fun t2 nt2 => ?_⟩
  have s2 := same_upd nt2 (.tup [.int 32, .int 95])
  walk_at "rd"
  refine ⟨by show 2 ≤ sizeLine; decide, fun t3 nt3 => ?_⟩
  have s3 := same_upd nt3 (.tup [.int 97, .int 26])
  have g1 := s3 _ _ (s2 _ _ (upd_same : upd H3 t1 (.tup [.int 0, .int 256]) t1 = some (.tup [.int 0, .int 256])))
  have g2 := s3 _ _ (upd_same : upd (upd H3 t1 (.tup [.int 0, .int 256])) t2 (.tup [.int 32, .int 95]) t2 = some (.tup [.int 32, .int 95]))
  have g3 : upd (upd (upd H3 t1 (.tup [.int 0, .int 256])) t2 (.tup [.int 32, .int 95])) t3 (.tup [.int 97, .int 26]) t3 = some (.tup [.int 97, .int 26]) := upd_same
  have s13 := (s1.trans s2).trans s3
  have L4 := L3.same s13
  have k4 := k3.trans (Keep.of s13)
  generalize upd (upd (upd H3 t1 (.tup [.int 0, .int 256])) t2 (.tup [.int 32, .int 95])) t3 (.tup [.int 97, .int 26]) = H4 at g1 g2 g3 L4 k4 ⊢
  clear s1 s2 s3 s13 nt1 nt2 nt3 L3 k3
  walk_at "rd"
  refine d_pick (xs := [.ref t1, .ref t2, .ref t3]) L4 rfl (by show 3 ≤ sizeLine; decide) (by decide) rfl fun v H5 hv L5 k5 => ?_
  have tk := keep_tk L4 k5
  obtain ⟨t, lo, sp, rfl, ht, hsp⟩ : ∃ t lo sp, v = V.ref t ∧ H5 t = some (.tup [.int lo, .int sp]) ∧ 0 < sp := by
    rcases List.mem_cons.mp hv with e | e
    · exact ⟨t1, 0, 256, e, tk _ _ g1, by decide⟩
    rcases List.mem_cons.mp e with e | e
    · exact ⟨t2, 32, 95, e, tk _ _ g2, by decide⟩
    · exact ⟨t3, 97, 26, by simpa using e, tk _ _ g3, by decide⟩
  have k5 := k4.trans k5
  walk_at "rd"
  refine r_gtup (SqT.of ht) rfl ?_
  walk_at "rd"
  refine ⟨by omega, by omega, fun D nD => ?_⟩
  have DS := L5.ne_free nD
  have nD0 : H D = none := k5.free L5 nD
  refine lc_range (fun i H' => LS K S H' ∧ Keep S H H' ∧ ∃ cs : List Int, cs.length = i ∧ H' D = some (.lst (cs.map V.int))) ⟨L5.new nD _, k5.trans (Keep.of (same_upd nD _)), [], rfl, upd_same⟩ ?_ ?_
  · rintro i H6 hi ⟨L6, k6, cs, e1, e2⟩
    walk_at "rd"
    refine ⟨rfl, ?_⟩
    walk_at "rd"
    refine d_next L6 hsp fun c H7 a7 b7 L7 k7 => ?_
    walk_at "rd"
    exact ⟨_, k7 _ _ DS e2, small1000 (by rw [List.length_map]; omega), L5.away nD L7 _, keep_away (k6.trans k7) nD0, cs ++ [lo + c], by rw [List.length_append, e1]; rfl, by rw [upd_same, map_snoc]⟩
  rintro H6 ⟨L6, k6, cs, e1, e2⟩
  walk_at "rd"
  refine ⟨D, _, rfl, .inl ⟨SqL.of e2, fun t nt => ?_⟩⟩
  exact h t cs _ upd_same (by omega) (L6.new nt _) (k6.trans (Keep.of (same_upd nt _)))
theorem ok__law_leaf (F : FunD K "_law_leaf" "_law_leaf" (defArgs s__law_leaf) (defBody s__law_leaf) (defScope s__law_leaf) [] [] (glAd "_law_leaf" K) fd) (m : mg "_law_leaf" = some (.ref (glAd "_law_leaf" K))) (nb : Nm K mg) (c__law_next : Cal P w K mg base 1 "_law_next" (sp__law_next K) []) (c__law_number : Cal P w K mg base 3 "_law_number" (sp__law_number K) []) (c__law_points : Cal P w K mg base 2 "_law_points" (sp__law_points K) []) (c__law_octets : Cal P w K mg base 2 "_law_octets" (sp__law_octets K) []) : Cal P w K mg base 4 "_law_leaf" (sp__law_leaf K) [] := by
  refine calD F m sc__law_leaf (fun _ _ _ _ _ _ us hl => match us, hl with | [_, _], _ => rfl) len2 (fun cdv A outer s H vs Q E hr h => ⟨_, (pss_cons (ps_set (i := 2) sc__law_leaf.nd rfl (Or.inl rfl) (pe_ix ix_list (pv 1) (pe_c c__law_next hr (by decide) rfl (pa_cons (pv 0) (pa_cons (pe_callB call_len_seq (by rfl) nb.len PySem.boot_len (pa_cons (pv 1) pa_nil)) pa_nil))) (fun _ _ => rfl)))
    (pss_cons (ps_if (pt_cmpR op_eq (pv 2) pe_str (nomark _))
    (pss_one (ps_ret (pe_tup (pa_cons pe_str (pa_cons (pe_cmpR op_eq (pe_c c__law_next hr (by decide) rfl (pa_cons (pv 0) (pa_cons pe_int pa_nil))) pe_int (nomark _)) pa_nil)))))
    pss_nil)
    (pss_cons (ps_if (pt_cmpR op_eq (pv 2) pe_str (nomark _))
    (pss_one (ps_ret (pe_c c__law_number hr (by decide) rfl (pa_cons (pv 0) pa_nil))))
    pss_nil)
    (pss_cons (ps_if (pt_cmpR op_eq (pv 2) pe_str (nomark _))
    (pss_one (ps_ret (pe_tup (pa_cons pe_str (pa_cons (pe_c c__law_octets hr (by decide) rfl (pa_cons (pv 0) pa_nil)) pa_nil)))))
    pss_nil)
    (pss_cons (ps_if (pt_cmpR op_eq (pv 2) pe_str (nomark _))
    (pss_one (ps_ret (pe_tup (pa_cons pe_str (pa_cons (pe_c c__law_points hr (by decide) rfl (pa_cons (pv 0) pa_nil)) pa_nil)))))
    pss_nil)
    (pss_one (ps_ret (pe_tup (pa_cons pe_str pa_nil))))))))), ?_⟩)
  obtain ⟨_, _, rfl, S, p, kinds, rfl, rfl, L, pS, hp, hne, h⟩ := h
  walk_at "rd"
  refine ⟨p, _, rfl, .inl (SqL.of hp), ?_⟩
  rw [List.length_map]
  walk_at "rd"
  have hk0 : 0 < kinds.length := List.length_pos_iff.mpr hne
  refine d_next L (by omega) fun r1 H1 a1 b1 L1 k1 => ?_
  obtain ⟨kind, ek⟩ : ∃ kind : Str, atI (kinds.map V.str) r1 = some (.str kind) := by
    have hr : r1.toNat < kinds.length := by omega
    refine ⟨kinds[r1.toNat], ?_⟩
    have q : atI (kinds.map V.str) ((r1.toNat : Nat) : Int) = some (.str kinds[r1.toNat]) := atI_nat (by rw [List.getElem?_map, List.getElem?_eq_getElem hr]; rfl)
    rw [show ((r1.toNat : Nat) : Int) = r1 by omega] at q
    exact q
  refine r_ixL (SqL.of (k1 _ _ pS hp)) ek ?_
  walk_at "rd"
  refine r_ite (fun c => ?_) (fun c => ?_)
  · walk_at "rd"
    refine d_next L1 (by decide) fun r2 H2 a2 b2 L2 k2 => ?_
    walk_at "rd"
    refine ⟨by show 2 ≤ sizeLine; decide, fun q nq => ?_⟩
    exact h (.ref q) _ _ _ (.truth (decide (r2 = 0))) (.tup upd_same (.cons (.str _) (.cons (.bl _) .nil))) (L2.new nq _) ((k1.trans k2).trans (Keep.of (same_upd nq _)))
  walk_at "rd"
  refine r_ite (fun c => ?_) (fun c => ?_)
  · walk_at "rd"
    exact ⟨_, rfl, S, rfl, L1, fun v m e H2 hv L2 k2 => h v _ _ H2 (.number m e) hv L2 (k1.trans k2)⟩
  walk_at "rd"
  refine r_ite (fun c => ?_) (fun c => ?_)
  · walk_at "rd"
    refine ⟨_, rfl, S, rfl, L1, fun p os H2 hp2 hl L2 k2 => ?_⟩
    walk_at "rd"
    refine ⟨by show 2 ≤ sizeLine; decide, fun q nq => ?_⟩
    exact h (.ref q) _ _ _ (.bytes os hl) (.tup upd_same (.cons (.str _) (.cons (tp_kd (same_upd nq _ _ _ hp2)) .nil))) (L2.new nq _) ((k1.trans k2).trans (Keep.of (same_upd nq _)))
  walk_at "rd"
  refine r_ite (fun c => ?_) (fun c => ?_)
  · walk_at "rd"
    refine ⟨_, rfl, S, rfl, L1, fun p os H2 hp2 hl L2 k2 => ?_⟩
    walk_at "rd"
    refine ⟨by show 2 ≤ sizeLine; decide, fun q nq => ?_⟩
    exact h (.ref q) _ _ _ (.text os hl) (.tup upd_same (.cons (.str _) (.cons (tp_kd (same_upd nq _ _ _ hp2)) .nil))) (L2.new nq _) ((k1.trans k2).trans (Keep.of (same_upd nq _)))
  walk_at "rd"
  refine ⟨by show 1 ≤ sizeLine; decide, fun q nq => ?_⟩
  exact h (.ref q) _ _ _ .null (.tup upd_same (.cons (.str _) .nil)) (L1.new nq _) (k1.trans (Keep.of (same_upd nq _)))
end

section
variable {P : Program} {w : World} {K : PySem.W.Frag} {mg : Str → Option Value} {base : Heap} {f : Addr} {fd : FuncData}
theorem ok_lf {n : Nat} {k : Str} {r : List PyData} (h : Lf k r) : (Vl.lf k r).ok n := by cases n <;> exact h
theorem vl_ref {H : Hp} {v : V} {t : Vl} (h : Tp H v t.dat) : ∃ u, v = .ref u := by
  cases t with
  | lf k r =>
    obtain ⟨a, _, e, _⟩ := tp_tup (show Tp H v (.tuple (.str k :: r)) from h)
    exact ⟨a, e⟩
  | ls xs =>
    obtain ⟨a, _, e, _⟩ := tp_tup (show Tp H v (.tuple [.str "list", .tuple (datL xs)]) from h)
    exact ⟨a, e⟩
  | mp es =>
    obtain ⟨a, _, e, _⟩ := tp_tup (show Tp H v (.tuple [.str "map", .tuple (datM es)]) from h)
    exact ⟨a, e⟩
theorem map_get {α : Type} {f : α → V} {l : List α} {i : Nat} {x : V} (h : (l.map f)[i]? = some x) : ∃ e, l[i]? = some e ∧ x = f e ∧ l.take (i + 1) = l.take i ++ [e] := by
  rw [List.getElem?_map] at h
  obtain ⟨e, h1, h2⟩ := Option.map_eq_some_iff.mp h
  refine ⟨e, h1, h2.symm, ?_⟩
  rw [List.take_succ, h1]
  rfl
theorem dpa_map {α : Type} {K : Frg} {H : Hp} {f : α → V} {g : α → PyData} : ∀ {l : List α}, (∀ e ∈ l, Dp K H (f e) (g e)) → DpAll K H (l.map f) (l.map g)
  | [], _ => .nil
  | x :: l, h => .cons (h x (List.mem_cons_self ..)) (dpa_map fun e he => h e (List.mem_cons_of_mem _ he))
theorem tpa_map {α : Type} {H : Hp} {f : α → V} {g : α → PyData} : ∀ {l : List α}, (∀ e ∈ l, Tp H (f e) (g e)) → TpAll H (l.map f) (l.map g)
  | [], _ => .nil
  | x :: l, h => .cons (h x (List.mem_cons_self ..)) (tpa_map fun e he => h e (List.mem_cons_of_mem _ he))
theorem EntAt.tk {H H' : Hp} {e : Ent} (k : Tk H H') (h : EntAt H e) : EntAt H' e := ⟨k _ _ h.1, k _ _ h.2⟩
/-- an entry and its value -/
def EvAt (H : Hp) (n : Nat) (e : Ent × Vl) : Prop := EntAt H e.1 ∧ Tp H (.ref e.1.u) e.2.dat ∧ e.2.ok n ∧ e.1.k.length ≤ 200
theorem EvAt.tk {H H' : Hp} {n : Nat} {e : Ent × Vl} (k : Tk H H') (h : EvAt H n e) : EvAt H' n e := ⟨h.1.tk k, Tp.tk k _ _ h.2.1, h.2.2⟩
theorem tpa_ents {H : Hp} {n : Nat} {zs : List (Ent × Vl)} (h : ∀ e ∈ zs, EvAt H n e) : TpAll H ((zs.map fun e => e.1).map fun e => V.ref e.t) (datM (zs.map fun e => (e.1.k, e.2))) := by
  rw [datM_map, List.map_map, List.map_map]
  exact tpa_map fun e he => .tup (h e he).1.1 (.cons (tp_kd (h e he).1.2) (.cons (h e he).2.1 .nil))
theorem ok__law_value (n : Nat) (F : FunD K "_law_value" "_law_value" (defArgs s__law_value) (defBody s__law_value) (defScope s__law_value) [] [] (glAd "_law_value" K) fd) (m : mg "_law_value" = some (.ref (glAd "_law_value" K))) (nb : Nm K mg) (c__law_next : Cal P w K mg base 1 "_law_next" (sp__law_next K) []) (c__law_points : Cal P w K mg base 2 "_law_points" (sp__law_points K) []) (c__law_leaf : Cal P w K mg base 4 "_law_leaf" (sp__law_leaf K) []) (c__law_value : Cal P w K mg base (5 + n) "_law_value" (sp__law_value K n) []) : Cal P w K mg base (5 + n + 1) "_law_value" (sp__law_value K (n + 1)) [] := by
  refine calD F m sc__law_value (fun _ _ _ _ _ _ us hl => match us, hl with | [_, _, _, _], _ => rfl) len4 (fun cdv A outer s H vs Q E hr h => ⟨_, (pss_cons (ps_asg (pe_op op_sub (pe_ix ix_list (pv 0) pe_int (fun _ _ => rfl)) pe_int) (pg_sub (pv 0) pe_int set_list))
    (pss_cons (ps_set (i := 4) sc__law_value.nd rfl (Or.inl rfl) (pe_c c__law_next hr (by omega) rfl (pa_cons (pv 0) (pa_cons pe_int pa_nil))))
    (pss_cons (ps_if (PW.pt (pw_or (pt_cmpR op_eq (pv 1) pe_int (nomark _)) (pw_or (pt_cmpR op_le (pe_ix ix_list (pv 0) pe_int (fun _ _ => rfl)) pe_int (nomark _)) (pw_or1 (pt_cmpR op_lt (pv 4) pe_int (nomark _))))))
    (pss_one (ps_ret (pe_c c__law_leaf hr (by omega) rfl (pa_cons (pv 0) (pa_cons (pv 2) pa_nil)))))
    pss_nil)
    (pss_cons (ps_set (i := 5) sc__law_value.nd rfl (Or.inl rfl) (pe_c c__law_next hr (by omega) rfl (pa_cons (pv 0) (pa_cons pe_int pa_nil))))
    (pss_cut (ps_if (PW.pt (pw_and (pt_cmpR op_gt (pe_ix ix_list (pv 0) pe_int (fun _ _ => rfl)) pe_int (nomark _)) (pw_and1 (pt_cmpR op_eq (pe_c c__law_next hr (by omega) rfl (pa_cons (pv 0) (pa_cons pe_int pa_nil))) pe_int (nomark _)))))
    (pss_cons (ps_asg (pe_op op_sub (pe_ix ix_list (pv 0) pe_int (fun _ _ => rfl)) pe_int) (pg_sub (pv 0) pe_int set_list))
    (pss_one (ps_set (i := 5) sc__law_value.nd rfl (Or.inl rfl) (pe_op op_add pe_int (pe_c c__law_next hr (by omega) rfl (pa_cons (pv 0) (pa_cons pe_int pa_nil)))))))
    pss_nil)
    (pss_cons (ps_if (PW.pt (pw_or (pt_cmpR op_eq (pv 4) pe_int (nomark _)) (pw_or1 (pt_not (pt_val (pv 3))))))
    (pss_one (ps_ret (pe_tup (pa_cons pe_str (pa_cons (pe_callTy call_tuple_of (by rfl) nb.tuple (by decide +kernel) (pa_cons (pe_lc (own := [("k", 6)]) (g := gName 6) (tt := tYes) rfl sc__law_value.nd (pi_range1 rfl nb.range (pa_cons (pv 5) pa_nil)) (blkOk_by (N := ["state", "deep", "kinds", "has_maps", "pick", "many", "k", "entries", "key", "entry"]) (sc := defScope s__law_value) (by decide +kernel)) (fun _ _ _ _ _ => pg_name (i := 6) sc__law_value.nd rfl (Or.inl rfl)) (fun _ _ _ _ _ => pts_nil) (fun _ _ _ _ _ => (pe_c c__law_value hr (by omega) rfl (pa_cons (pv 0) (pa_cons (pe_op op_sub (pv 1) pe_int) (pa_cons (pv 2) (pa_cons (pv 3) pa_nil))))))) pa_nil)) pa_nil)))))
    pss_nil)
    (pss_cons (ps_set (i := 7) sc__law_value.nd rfl (Or.inl rfl) (pe_lst pa_nil))
    (pss_cons (ps_for PassesOwn.never rfl (pi_range1 rfl nb.range (pa_cons (pv 5) pa_nil)) (pg_name (i := 6) sc__law_value.nd rfl (Or.inl rfl))
    (pss_cons (ps_set (i := 8) sc__law_value.nd rfl (Or.inl rfl) (pe_c c__law_points hr (by omega) rfl (pa_cons (pv 0) pa_nil)))
    (pss_one (ps_if (pt_cmpR (op_notInD (hu65 hr)) (pv 8) (pe_lc (own := [("entry", 9)]) (g := gName 9) (tt := tYes) rfl sc__law_value.nd (pi_list (pv 7)) (blkOk_by (N := ["state", "deep", "kinds", "has_maps", "pick", "many", "k", "entries", "key", "entry"]) (sc := defScope s__law_value) (by decide +kernel)) (fun _ _ _ _ _ => pg_name (i := 9) sc__law_value.nd rfl (Or.inl rfl)) (fun _ _ _ _ _ => pts_nil) (fun _ _ _ _ _ => (pe_ix (show IxR _ (rIxT K) from ix_tup) (pv 9) pe_int (fun _ _ => rfl)))) rfl)
    (pss_one (ps_expr (pe_bm PySem.F.plainAttrs_list PySem.F.slot_list_append PySem.F.type_list_append mt_append (pv 7) (pa_cons (pe_tup (pa_cons (pv 8) (pa_cons (pe_c c__law_value hr (by omega) rfl (pa_cons (pv 0) (pa_cons (pe_op op_sub (pv 1) pe_int) (pa_cons (pv 2) (pa_cons (pv 3) pa_nil))))) pa_nil))) pa_nil))))
    pss_nil))))
    (pss_one (ps_ret (pe_tup (pa_cons pe_str (pa_cons (pe_callTy call_tuple_of (by rfl) nb.tuple (by decide +kernel) (pa_cons (pe_callB (cr_sortedE hr.units) (by rfl) nb.sorted (by decide +kernel) (pa_cons (pv 7) pa_nil)) pa_nil)) pa_nil))))))))))))), ?_⟩)
  obtain ⟨_, _, _, _, rfl, S, p, kinds, hm, deep, rfl, rfl, hd, rfl, rfl, L, pS, hp, hne, h⟩ := h
  obtain ⟨k0, l, f5, e⟩ := L.st
  walk_at "rd"
  refine r_ixL (SqL.of e) rfl ?_
  walk_at "rd"
  refine r_setL e rfl ?_
  walk_at "rd"
  have L1 := L.put k0 (l - 1) f5
  have kk1 : Keep S H (upd H S.a (.lst [.ref S.nl, .int k0, .int (l - 1), .ref S.sl, .int f5])) := Keep.put _
  have hp1 := kk1 _ _ pS hp
  have e1 : (upd H S.a (.lst [.ref S.nl, .int k0, .int (l - 1), .ref S.sl, .int f5])) S.a = some (.lst [.ref S.nl, .int k0, .int (l - 1), .ref S.sl, .int f5]) := upd_same
  have e1 : (upd H S.a (.lst [V.ref S.nl, .int k0, .ref S.nl, .ref S.sl, .int f5])) S.a = some (.lst [.ref S.nl, .int k0, .ref S.nl, .ref S.sl, .int f5]) := upd_same
  clear e1
  refine d_next L1 (by decide) fun pick H2 a2 b2 L2 k2 => ?_
  have hp2 := k2 _ _ pS hp1
  have k2 := kk1.trans k2
  clear L1 kk1 hp1
  obtain ⟨k0', l', f5', e2⟩ := L2.st
  walk_at "ri"
  refine r_ifB (decide (deep = 0 ∨ l' ≤ 0 ∨ pick < 2)) ?_ ?_
  · intro R hR
    walk_at "rd"
    refine r_ite (fun c => ?_) (fun c => ?_)
    · walk_at "rd"
      rw [decide_eq_true (.inl (by omega))] at hR
      exact hR
    walk_at "rd"
    refine r_ixL (SqL.of e2) rfl ?_
    walk_at "rd"
    refine r_ite (fun c2 => ?_) (fun c2 => ?_)
    · walk_at "rd"
      rw [decide_eq_true (.inr (.inl c2))] at hR
      exact hR
    walk_at "rd"
    have ed : decide (pick < 2) = decide (deep = 0 ∨ l' ≤ 0 ∨ pick < 2) := decide_eq_decide.mpr ⟨fun q => .inr (.inr q), fun q => by omega⟩
    rw [ed]
    exact hR
  refine r_ite (fun c => ?_) (fun c => ?_)
  · walk_at "rd"
    exact ⟨_, _, rfl, S, p, kinds, rfl, rfl, L2, pS, hp2, hne, fun v k r H3 hl hv L3 k3 => h v (.lf k r) H3 (ok_lf hl) hv L3 (k2.trans k3)⟩
  obtain ⟨deep, rfl⟩ : ∃ d, deep = d + 1 := ⟨deep - 1, by omega⟩
  have ed : ((deep + 1 : Nat) : Int) - 1 = ((deep : Nat) : Int) := by omega
  walk_at "rd"
  refine d_next L2 (by decide) fun m0 H3 a3 b3 L3 k3 => ?_
  have hp3 := k3 _ _ pS hp2
  have k3 := k2.trans k3
  clear L2 k2 hp2 e2
  walk_at "rd"
  refine r_cut (fun σ H' => LS K S H' ∧ Keep S H H' ∧ ∃ (m : Int), 0 ≤ m ∧ m ≤ 49 ∧ σ = [some (.ref S.a), some (.int (deep + 1 : Nat)), some (.ref p), some (.bl hm), some (.int pick), some (.int m), none, none, none, none]) ?_ ?_
  · walk_at "rd"
    obtain ⟨kk, l, f5, e⟩ := L3.st
    refine r_ixL (SqL.of e) rfl ?_
    walk_at "rd"
    refine r_ite (fun c => ?_) (fun c => ?_)
    · walk_at "rd"
      refine d_next L3 (by decide) fun r4 H4 a4 b4 L4 k4 => ?_
      have k4 := k3.trans k4
      walk_at "rd"
      refine r_ite (fun c => ?_) (fun c => ?_)
      · walk_at "rd"
        obtain ⟨kk, l, f5, e⟩ := L4.st
        refine r_ixL (SqL.of e) rfl ?_
        walk_at "rd"
        refine r_setL e rfl ?_
        walk_at "rd"
        have L5 := L4.put kk l (f5 - 1)
        have k5 := k4.trans (Keep.put (H := H4) (.lst [.ref S.nl, .int kk, .int l, .ref S.sl, .int (f5 - 1)]))
        refine d_next L5 (by decide) fun r6 H6 a6 b6 L6 k6 => ?_
        walk_at "rd"
        exact ⟨L6, k5.trans k6, _, by omega, by omega, rfl⟩
      · walk_at "rd"
        exact ⟨L4, k4, _, a3, by omega, rfl⟩
    · walk_at "rd"
      exact ⟨L3, k3, _, a3, by omega, rfl⟩
  rintro σ H4 ⟨L4, k4, m, hm0, hm1, rfl⟩
  have hp4 := k4 _ _ pS hp
  clear L3 k3 hp3
  walk_at "ri"
  refine r_ifB (decide (pick = 2) || !hm) ?_ ?_
  · intro R hR
    walk_at "rd"
    refine r_ite (fun c => ?_) (fun c => ?_)
    · rw [decide_eq_true c] at hR
      walk_at "rd"
      exact hR
    · rw [decide_eq_false c] at hR
      walk_at "rd"
      exact hR
  refine r_ifTF (fun _ => ?_) (fun _ => ?_)
  · walk_at "rd"
    refine ⟨by omega, by omega, fun D nD => ?_⟩
    have DS := L4.ne_free nD
    have nD0 : H D = none := k4.free L4 nD
    refine lc_range (fun i H' => LS K S H' ∧ Keep S H H' ∧ ∃ (vs : List V) (ts : List Vl), ts.length = i ∧ vokL deep ts ∧ TpAll H' vs (datL ts) ∧ H' D = some (.lst vs)) ⟨L4.new nD _, k4.trans (Keep.of (same_upd nD _)), [], [], rfl, trivial, .nil, upd_same⟩ ?_ ?_
    · rintro i H5 hi ⟨L5, k5, vs, ts, e1, e2, e3, e4⟩
      walk_at "rd"
      refine ⟨rfl, ?_⟩
      walk_at "rd"
      refine ⟨_, _, _, _, rfl, S, p, kinds, hm, deep, rfl, congrArg V.int ed, by omega, rfl, rfl, L5, pS, k5 _ _ pS hp, hne, fun v t H6 ok tp L6 k6 => ?_⟩
      have hD6 := k6 _ _ DS e4
      have hl : vs.length = i := by rw [tpAll_len e3, datL_map, List.length_map, e1]
      have tk6 := (keep_tk L5 k6).trans (tk_put (o := .lst (vs ++ [v])) hD6)
      refine ⟨vs, hD6, small1000 (by omega), L4.away nD L6 _, keep_away (k5.trans k6) nD0, vs ++ [v], ts ++ [t], by rw [List.length_append, e1]; rfl, vokL_app e2 ⟨ok, trivial⟩, ?_, upd_same⟩
      rw [datL_app]
      exact tpAll_app (TpAll.tk tk6 _ _ e3) (.cons (Tp.tk (tk_put hD6) _ _ tp) .nil)
    · rintro H5 ⟨L5, k5, vs, ts, e1, e2, e3, e4⟩
      walk_at "rd"
      refine ⟨D, _, rfl, .inl ⟨SqL.of e4, fun t nt => ?_⟩⟩
      walk_at "rd"
      refine ⟨by show 2 ≤ sizeLine; decide, fun q nq => ?_⟩
      have s7 := (same_upd nt (.tup vs)).trans (same_upd nq (.tup [.str "list", .ref t]))
      refine h (.ref q) (.ls ts) _ ⟨by omega, e2⟩ (.tup upd_same (.cons (.str _) (.cons (.tup (same_upd nq _ _ _ upd_same) (TpAll.tk (Same.tk s7) _ _ e3)) .nil))) (L5.same s7) (k5.trans (Keep.of s7))
  · walk_at "rd"
    refine ⟨Nat.zero_le _, fun D nD => ?_⟩
    have DS := L4.ne_free nD
    have nD0 : H D = none := k4.free L4 nD
    walk_at "rd"
    refine r_turns (by omega) (by omega) (fun i σ H' => LS K S H' ∧ Keep S H H' ∧ ∃ (es : List (Ent × Vl)) (y6 y8 y9 : Option V), es.length ≤ i ∧ (∀ e ∈ es, EvAt H' deep e) ∧ (es.map (·.1.k)).Nodup ∧ H' D = some (.lst (es.map fun e => V.ref e.1.t)) ∧ σ = [some (.ref S.a), some (.int (deep + 1 : Nat)), some (.ref p), some (.bl hm), some (.int pick), some (.int m), y6, some (.ref D), y8, y9])
      ⟨L4.new nD _, k4.trans (Keep.of (same_upd nD _)), [], _, _, _, Nat.le_refl _, fun _ h => absurd h (by simp), List.nodup_nil, upd_same, rfl⟩ ?_ ?_
    · rintro i σ H5 hi ⟨L5, k5, es, y6, y8, y9, e1, e2, e3, e4, rfl⟩
      walk_at "rd"
      refine ⟨_, rfl, S, rfl, L5, fun q ps H6 hq hpl L6 k6 => ?_⟩
      have hD6 := k6 _ _ DS e4
      have e2 : ∀ e ∈ es, EvAt H6 deep e := fun e he => (e2 e he).tk (keep_tk L5 k6)
      have k6 := k5.trans k6
      clear L5 k5 e4
      walk_at "rd"
      refine ⟨D, rfl, ⟨_, SqL.of hD6⟩, fun D2 nD2 => ?_⟩
      refine lc_list (xs := es.map fun e => V.ref e.1.t) (fun j H' => Same H6 H' ∧ H' D2 = some (.lst ((es.take j).map fun e => V.ref e.1.q))) ⟨same_upd nD2 _, upd_same⟩ (fun j H' _ hh => SqL.of (hh.1 _ _ hD6)) ?_ ?_
      · rintro j x H7 hx ⟨s7, g7⟩
        obtain ⟨en, hj, rfl, et⟩ := map_get hx
        walk_at "rd"
        refine ⟨rfl, ?_⟩
        walk_at "rd"
        refine r_ixT (SqT.of (s7 _ _ (e2 en (List.mem_of_getElem? hj)).1.1)) rfl ?_
        refine ⟨_, g7, small1000 (by rw [List.length_map, List.length_take]; omega), same_away s7 nD2, ?_⟩
        rw [upd_same, et, List.map_append]
        rfl
      rintro H7 ⟨s7, g7⟩
      rw [List.length_map, List.take_length] at g7
      have L7 := L6.same s7
      have k7 := k6.trans (Keep.of s7)
      have hD7 := s7 _ _ hD6
      have hq7 := s7 _ _ hq
      have e2 : ∀ e ∈ es, EvAt H7 deep e := fun e he => (e2 e he).tk (Same.tk s7)
      clear L6 k6 hD6 hq s7
      refine ⟨kd ps, (es.map (·.1.k)).map kd, Tp.dp _ _ (tp_kd hq7), .lst (SqL.of g7) ?_, shaped_kd ps, shaped_kds _, ?_⟩
      · rw [List.map_map]
        exact dpa_map fun e he => Tp.dp _ _ (tp_kd (e2 e he).1.2)
      rw [eqv_kds]
      refine r_bl (r_iten (fun c => ?_) (fun c => ?_))
      · walk_at "rd"
        refine ⟨tyL hD7, ?_⟩
        walk_at "rd"
        refine ⟨_, _, _, _, rfl, S, p, kinds, hm, deep, rfl, congrArg V.int ed, by omega, rfl, rfl, L7, pS, k7 _ _ pS hp, hne, fun v t H8 ok tp L8 k8 => ?_⟩
        obtain ⟨u, rfl⟩ := vl_ref tp
        have tk8 := keep_tk L7 k8
        have hD8 := k8 _ _ DS hD7
        walk_at "rd"
        refine ⟨by show 2 ≤ sizeLine; decide, fun T nT => ?_⟩
        have s9 := same_upd nT (.tup [.ref q, .ref u])
        have hD9 := s9 _ _ hD8
        have L9 := L8.new nT (.tup [.ref q, .ref u])
        walk_at "rd"
        refine r_app hD9 (small1000 (by rw [List.length_map]; omega)) ?_
        have tk9 := (Same.tk s9).trans (tk_put (o := .lst ((es.map fun e => V.ref e.1.t) ++ [.ref T])) hD9)
        refine ⟨L4.away nD L9 _, keep_away ((k7.trans k8).trans (Keep.of s9)) nD0, es ++ [(⟨T, q, u, ps⟩, t)], _, _, _, by rw [List.length_append]; show es.length + 1 ≤ i + 1; omega, fun e he => ?_, ?_, ?_, rfl⟩
        · rcases List.mem_append.mp he with q1 | q1
          · exact (e2 e q1).tk (tk8.trans tk9)
          · have e5 : e = (⟨T, q, u, ps⟩, t) := by simpa using q1
            subst e5
            exact ⟨⟨tk_put hD9 _ _ upd_same, tk9 _ _ (tk8 _ _ hq7)⟩, Tp.tk tk9 _ _ tp, ok, hpl⟩
        · rw [List.map_append, List.nodup_append]
          refine ⟨e3, by simp, ?_⟩
          intro a ha b hb
          have eb : b = ps := by simpa using hb
          rw [eb]
          exact fun z => c (z ▸ ha)
        · rw [upd_same, List.map_append]
          rfl
      · walk_at "rd"
        exact ⟨L7, k7, es, _, _, _, by omega, e2, e3, hD7, rfl⟩
    · rintro σ H5 ⟨L5, k5, es, y6, y8, y9, e1, e2, e3, e4, rfl⟩
      walk_at "rd"
      refine ⟨D, es.map (·.1), rfl, ?_, fun e he => ?_, ?_, fun es' l' pe srt nl => ?_⟩
      · rw [List.map_map]
        exact SqL.of e4
      · obtain ⟨x, hx, rfl⟩ := List.mem_map.mp he
        exact (e2 x hx).1
      · rw [List.map_map]
        exact e3
      obtain ⟨zs, pz, rfl⟩ := perm_up (fun e : Ent × Vl => e.1) pe
      walk_at "rd"
      refine ⟨l', _, rfl, .inl ⟨SqL.of upd_same, fun t nt => ?_⟩⟩
      walk_at "rd"
      refine ⟨by show 2 ≤ sizeLine; decide, fun q nq => ?_⟩
      have s7 := ((same_upd nl (.lst ((zs.map fun e => e.1).map fun e => V.ref e.t))).trans (same_upd nt (.tup ((zs.map fun e => e.1).map fun e => V.ref e.t)))).trans (same_upd nq (.tup [.str "map", .ref t]))
      have e7 : ∀ e ∈ zs, EvAt _ deep e := fun e he => (e2 e (pz.mem_iff.mp he)).tk (Same.tk s7)
      refine h (.ref q) (.mp (zs.map fun e => (e.1.k, e.2))) _ ⟨?_, ?_, ?_, ?_⟩ (.tup upd_same (.cons (.str _) (.cons (.tup (same_upd nq _ _ _ upd_same) ?_) .nil))) (L5.same s7) (k5.trans (Keep.of s7))
      · rw [List.length_map, pz.length_eq]
        omega
      · rw [List.map_map] at srt ⊢
        exact srt
      · intro e he
        obtain ⟨x, hx, rfl⟩ := List.mem_map.mp he
        exact (e7 x hx).2.2.2
      · refine vokM_of fun e he => ?_
        obtain ⟨x, hx, rfl⟩ := List.mem_map.mp he
        exact (e7 x hx).2.2.1
      · exact tpa_ents e7
theorem rec__law_value (F : FunD K "_law_value" "_law_value" (defArgs s__law_value) (defBody s__law_value) (defScope s__law_value) [] [] (glAd "_law_value" K) fd) (m : mg "_law_value" = some (.ref (glAd "_law_value" K))) (nb : Nm K mg) (c__law_next : Cal P w K mg base 1 "_law_next" (sp__law_next K) []) (c__law_points : Cal P w K mg base 2 "_law_points" (sp__law_points K) []) (c__law_leaf : Cal P w K mg base 4 "_law_leaf" (sp__law_leaf K) []) : ∀ n, Cal P w K mg base (5 + n) "_law_value" (sp__law_value K n) []
  | 0 => calD (k := 4) F m sc__law_value (fun _ _ _ _ _ _ us hl => match us, hl with | [_, _, _, _], _ => rfl) (fun _ _ _ _ h => (no__law_value h).elim) (fun _ _ _ _ _ _ _ _ _ h => (no__law_value h).elim)
  | n + 1 => ok__law_value n F m nb c__law_next c__law_points c__law_leaf (rec__law_value F m nb c__law_next c__law_points c__law_leaf n)
end

/-! ### events of a value -/
inductive Ev where
  | op (m : Bool)
  | ky (k : List Int)
  | lf (k : Str) (r : List PyData)
  | cl
def kindOf_ (m : Bool) : Str := if m then "map" else "list"
def Ev.dat : Ev → PyData
  | .op m => .tuple [.str "open", .str (kindOf_ m)]
  | .ky k => .tuple [.str "key", kd k]
  | .lf k r => .tuple [.str "leaf", .tuple (.str k :: r)]
  | .cl => .tuple [.str "close"]
mutual
def Vl.evs : Vl → List Ev
  | .lf k r => [.lf k r]
  | .ls xs => .op false :: (evsL xs ++ [.cl])
  | .mp es => .op true :: (evsM es ++ [.cl])
def evsL : List Vl → List Ev
  | [] => []
  | x :: xs => x.evs ++ evsL xs
def evsM : List (List Int × Vl) → List Ev
  | [] => []
  | (k, v) :: es => .ky k :: (v.evs ++ evsM es)
end
theorem evsL_app : ∀ (xs ys : List Vl), evsL (xs ++ ys) = evsL xs ++ evsL ys
  | [], _ => rfl
  | x :: xs, ys => by
    show x.evs ++ evsL (xs ++ ys) = x.evs ++ evsL xs ++ evsL ys
    rw [evsL_app xs ys, List.append_assoc]
theorem evsM_app : ∀ (xs ys : List (List Int × Vl)), evsM (xs ++ ys) = evsM xs ++ evsM ys
  | [], _ => rfl
  | (k, v) :: xs, ys => by
    show Ev.ky k :: (v.evs ++ evsM (xs ++ ys)) = Ev.ky k :: (v.evs ++ evsM xs) ++ evsM ys
    rw [evsM_app xs ys, List.cons_append, List.append_assoc]
theorem evsL_one (x : Vl) : evsL [x] = x.evs := by
  show x.evs ++ [] = x.evs
  rw [List.append_nil]
theorem evsM_one (k : List Int) (x : Vl) : evsM [(k, x)] = .ky k :: x.evs := by
  show Ev.ky k :: (x.evs ++ []) = _
  rw [List.append_nil]
theorem evsL_sub {xs : List Vl} {i : Nat} {x : Vl} (h : xs[i]? = some x) : (evsL (xs.take i)).length + x.evs.length ≤ (evsL xs).length := by
  have e : xs = xs.take i ++ (x :: xs.drop (i + 1)) := by
    obtain ⟨hi, e⟩ := List.getElem?_eq_some_iff.mp h
    rw [← e, List.getElem_cons_drop, List.take_append_drop]
  have q := congrArg (fun l => (evsL l).length) e
  have q : (evsL xs).length = (evsL (xs.take i ++ (x :: xs.drop (i + 1)))).length := q
  rw [evsL_app, List.length_append] at q
  have q2 : (evsL (x :: xs.drop (i + 1))).length = x.evs.length + (evsL (xs.drop (i + 1))).length := List.length_append
  omega
theorem evsM_sub {xs : List (List Int × Vl)} {i : Nat} {k : List Int} {x : Vl} (h : xs[i]? = some (k, x)) : (evsM (xs.take i)).length + 1 + x.evs.length ≤ (evsM xs).length := by
  have e : xs = xs.take i ++ ((k, x) :: xs.drop (i + 1)) := by
    obtain ⟨hi, e⟩ := List.getElem?_eq_some_iff.mp h
    rw [← e, List.getElem_cons_drop, List.take_append_drop]
  have q := congrArg (fun l => (evsM l).length) e
  have q : (evsM xs).length = (evsM (xs.take i ++ ((k, x) :: xs.drop (i + 1)))).length := q
  rw [evsM_app, List.length_append] at q
  have q2 : (evsM ((k, x) :: xs.drop (i + 1))).length = x.evs.length + (evsM (xs.drop (i + 1))).length + 1 := congrArg (· + 1) List.length_append
  omega
def evD (es : List Ev) : List PyData := es.map Ev.dat
theorem evD_app (a b : List Ev) : evD (a ++ b) = evD a ++ evD b := List.map_append
/-- how many events there are -/
def bndE : Nat → Nat
  | 0 => 1
  | n + 1 => 2 + 49 * (1 + bndE n)
mutual
theorem evs_bnd : ∀ (n : Nat) (t : Vl), t.ok n → t.evs.length ≤ bndE n
  | n, .lf k r, _ => by
    show 1 ≤ bndE n
    cases n with
    | zero => exact Nat.le_refl _
    | succ n => show 1 ≤ 2 + 49 * (1 + bndE n); omega
  | 0, .ls xs, h => h.elim
  | n + 1, .ls xs, h => by
    have q := evsL_bnd n xs h.2
    have h1 : xs.length ≤ 49 := h.1
    have e : (Vl.ls xs).evs.length = (evsL xs).length + 2 := by
      show (evsL xs ++ [Ev.cl]).length + 1 = _
      rw [List.length_append]
      rfl
    rw [e]
    show _ ≤ 2 + 49 * (1 + bndE n)
    have := Nat.mul_le_mul_right (1 + bndE n) h1
    omega
  | 0, .mp es, h => h.elim
  | n + 1, .mp es, h => by
    have q := evsM_bnd n es h.2.2.2
    have h1 : es.length ≤ 49 := h.1
    have e : (Vl.mp es).evs.length = (evsM es).length + 2 := by
      show (evsM es ++ [Ev.cl]).length + 1 = _
      rw [List.length_append]
      rfl
    rw [e]
    show _ ≤ 2 + 49 * (1 + bndE n)
    have := Nat.mul_le_mul_right (1 + bndE n) h1
    omega
theorem evsL_bnd : ∀ (n : Nat) (xs : List Vl), vokL n xs → (evsL xs).length ≤ xs.length * (1 + bndE n)
  | _, [], _ => Nat.zero_le _
  | n, x :: xs, h => by
    have q1 := evs_bnd n x h.1
    have q2 := evsL_bnd n xs h.2
    have e : (evsL (x :: xs)).length = x.evs.length + (evsL xs).length := List.length_append
    rw [e, List.length_cons, Nat.add_mul]
    omega
theorem evsM_bnd : ∀ (n : Nat) (xs : List (List Int × Vl)), vokM n xs → (evsM xs).length ≤ xs.length * (1 + bndE n)
  | _, [], _ => Nat.zero_le _
  | n, (k, x) :: xs, h => by
    have q1 := evs_bnd n x h.1
    have q2 := evsM_bnd n xs h.2
    have e : (evsM ((k, x) :: xs)).length = x.evs.length + (evsM xs).length + 1 := congrArg (· + 1) List.length_append
    rw [e, List.length_cons, Nat.add_mul]
    omega
end
mutual
theorem ok_mono : ∀ (n : Nat) (t : Vl), t.ok n → t.ok (n + 1)
  | n, .lf k r, h => ok_lf (by cases n <;> exact h)
  | 0, .ls xs, h => h.elim
  | n + 1, .ls xs, h => ⟨h.1, vokL_mono n xs h.2⟩
  | 0, .mp es, h => h.elim
  | n + 1, .mp es, h => ⟨h.1, h.2.1, h.2.2.1, vokM_mono n es h.2.2.2⟩
theorem vokL_mono : ∀ (n : Nat) (xs : List Vl), vokL n xs → vokL (n + 1) xs
  | _, [], _ => trivial
  | n, x :: xs, h => ⟨ok_mono n x h.1, vokL_mono n xs h.2⟩
theorem vokM_mono : ∀ (n : Nat) (xs : List (List Int × Vl)), vokM n xs → vokM (n + 1) xs
  | _, [], _ => trivial
  | n, (k, x) :: xs, h => ⟨ok_mono n x h.1, vokM_mono n xs h.2⟩
end
theorem lf_kind {k : Str} {r : List PyData} (h : Lf k r) : k ≠ "list" ∧ k ≠ "map" := by
  cases h <;> exact ⟨by decide +kernel, by decide +kernel⟩
/-- all but the list at p stays -/
def Bt (p : Addr) (H H' : Hp) : Prop := ∀ b o, b ≠ p → H b = some o → H' b = some o
theorem Bt.trans {p : Addr} {H H1 H2 : Hp} (x : Bt p H H1) (y : Bt p H1 H2) : Bt p H H2 := fun b o n h => y b o n (x b o n h)
theorem Bt.of {p : Addr} {H H' : Hp} (s : Same H H') : Bt p H H' := fun b o _ h => s b o h
theorem Bt.put {p : Addr} {H : Hp} (o : HO) : Bt p H (upd H p o) := fun b u n h => (upd_ne n).trans h
theorem Bt.tk {p : Addr} {H H' : Hp} {xs : List V} (h : H p = some (.lst xs)) (k : Bt p H H') : Tk H H' := tk_but h k
theorem small16M {n : Nat} (h : n ≤ 16000100) : n < sizeLine := Nat.lt_of_le_of_lt h (by decide)
theorem cps_ne {a b : Str} (h : ¬ a = b) : decide (a = b) = false := decide_eq_false h
/-- what stands at a list, at a map -/
theorem tp_ls {H : Hp} {v : V} {xs : List Vl} (h : Tp H v (Vl.ls xs).dat) : ∃ a b ws, v = .ref a ∧ H a = some (.tup [.str "list", .ref b]) ∧ H b = some (.tup ws) ∧ TpAll H ws (datL xs) := by
  obtain ⟨a, vs, rfl, h1, h2⟩ := tp_tup (show Tp H v (.tuple [.str "list", .tuple (datL xs)]) from h)
  cases h2 with
  | cons x1 x2 =>
    cases x1
    cases x2 with
    | cons y1 y2 =>
      cases y2
      obtain ⟨b, ws, rfl, g1, g2⟩ := tp_tup y1
      exact ⟨a, b, ws, rfl, h1, g1, g2⟩
theorem tp_mp {H : Hp} {v : V} {es : List (List Int × Vl)} (h : Tp H v (Vl.mp es).dat) : ∃ a b ws, v = .ref a ∧ H a = some (.tup [.str "map", .ref b]) ∧ H b = some (.tup ws) ∧ TpAll H ws (datM es) := by
  obtain ⟨a, vs, rfl, h1, h2⟩ := tp_tup (show Tp H v (.tuple [.str "map", .tuple (datM es)]) from h)
  cases h2 with
  | cons x1 x2 =>
    cases x1
    cases x2 with
    | cons y1 y2 =>
      cases y2
      obtain ⟨b, ws, rfl, g1, g2⟩ := tp_tup y1
      exact ⟨a, b, ws, rfl, h1, g1, g2⟩
theorem tp_en {H : Hp} {v : V} {k : List Int} {d : PyData} (h : Tp H v (.tuple [kd k, d])) : ∃ t q u, v = .ref t ∧ H t = some (.tup [.ref q, u]) ∧ H q = some (.tup (k.map V.int)) ∧ Tp H u d := by
  obtain ⟨a, vs, rfl, h1, h2⟩ := tp_tup h
  cases h2 with
  | cons x1 x2 =>
    cases x2 with
    | cons y1 y2 =>
      cases y2
      obtain ⟨q, rfl, hq⟩ := tp_kdB x1
      exact ⟨a, q, _, rfl, h1, hq, y1⟩
theorem tp_lf {H : Hp} {v : V} {k : Str} {r : List PyData} (h : Tp H v (Vl.lf k r).dat) : ∃ a ws, v = .ref a ∧ H a = some (.tup (.str k :: ws)) ∧ TpAll H ws r := by
  obtain ⟨a, vs, rfl, h1, h2⟩ := tp_tup (show Tp H v (.tuple (.str k :: r)) from h)
  cases h2 with
  | cons x1 x2 =>
    cases x1
    exact ⟨a, _, rfl, h1, x2⟩
theorem datL_get {xs : List Vl} {i : Nat} {d : PyData} (h : (datL xs)[i]? = some d) : ∃ x, xs[i]? = some x ∧ d = x.dat := by
  rw [datL_map, List.getElem?_map] at h
  obtain ⟨x, h1, h2⟩ := Option.map_eq_some_iff.mp h
  exact ⟨x, h1, h2.symm⟩
theorem datM_get {xs : List (List Int × Vl)} {i : Nat} {d : PyData} (h : (datM xs)[i]? = some d) : ∃ k x, xs[i]? = some (k, x) ∧ d = .tuple [kd k, x.dat] := by
  rw [datM_map, List.getElem?_map] at h
  obtain ⟨x, h1, h2⟩ := Option.map_eq_some_iff.mp h
  exact ⟨x.1, x.2, h1, h2.symm⟩
theorem take_one {α : Type} {l : List α} {i : Nat} {x : α} (h : l[i]? = some x) : l.take (i + 1) = l.take i ++ [x] := by
  rw [List.take_succ, h]
  rfl
theorem r_catV {a b : Addr} {xs ys : List V} {H : Hp} {Q : VK} (h1 : H a = some (.lst xs)) (h2 : H b = some (.lst ys)) (hl : xs.length + ys.length ≤ 16000100) (h : ∀ p H', H p = none → H' p = some (.lst (xs ++ ys)) → Same H H' → Q (.ref p) H') : rCat (.ref a) (.ref b) H Q :=
  ⟨a, b, _, _, rfl, rfl, h1, h2, Nat.le_of_lt (small16M hl), fun p hp => h p _ hp upd_same (same_upd hp _)⟩
theorem str_list : ¬ ("map" : Str) = "list" := by decide +kernel
theorem evsL_len {xs : List Vl} : (Vl.ls xs).evs.length = (evsL xs).length + 2 := by
  show (evsL xs ++ [Ev.cl]).length + 1 = _
  rw [List.length_append]
  rfl
theorem evsM_len {xs : List (List Int × Vl)} : (Vl.mp xs).evs.length = (evsM xs).length + 2 := by
  show (evsM xs ++ [Ev.cl]).length + 1 = _
  rw [List.length_append]
  rfl
theorem tp_ev2 {H : Hp} {T : Addr} {k : Str} {v : V} {d : PyData} (h : H T = some (.tup [.str k, v])) (hv : Tp H v d) : Tp H (.ref T) (.tuple [.str k, d]) := .tup h (.cons (.str _) (.cons hv .nil))
theorem tp_cl {H : Hp} {T : Addr} (h : H T = some (.tup [.str "close"])) : Tp H (.ref T) Ev.cl.dat := .tup h (.cons (.str _) .nil)
theorem evD_len (es : List Ev) : (evD es).length = es.length := List.length_map _

/-! ### the same value, the entries of its maps in any order -/
mutual
inductive Mx : Vl → Vl → Prop where
  | lf (k : Str) (r : List PyData) : Mx (.lf k r) (.lf k r)
  | ls {xs ms : List Vl} (h : MxL xs ms) : Mx (.ls xs) (.ls ms)
  | mp {es fs ms : List (List Int × Vl)} (p : fs.Perm es) (h : MxM fs ms) : Mx (.mp es) (.mp ms)
inductive MxL : List Vl → List Vl → Prop where
  | nil : MxL [] []
  | cons {x m : Vl} {xs ms : List Vl} (h : Mx x m) (r : MxL xs ms) : MxL (x :: xs) (m :: ms)
inductive MxM : List (List Int × Vl) → List (List Int × Vl) → Prop where
  | nil : MxM [] []
  | cons {k : List Int} {x m : Vl} {xs ms : List (List Int × Vl)} (h : Mx x m) (r : MxM xs ms) : MxM ((k, x) :: xs) ((k, m) :: ms)
end
theorem mxl_snoc {x m : Vl} (h : Mx x m) : ∀ (xs ms : List Vl), MxL xs ms → MxL (xs ++ [x]) (ms ++ [m])
  | [], [], .nil => .cons h .nil
  | y :: xs, n :: ms, .cons a b => by
    show MxL (y :: (xs ++ [x])) (n :: (ms ++ [m]))
    exact .cons a (mxl_snoc h xs ms b)
theorem mxm_snoc {k : List Int} {x m : Vl} (h : Mx x m) : ∀ (xs ms : List (List Int × Vl)), MxM xs ms → MxM (xs ++ [(k, x)]) (ms ++ [(k, m)])
  | [], [], .nil => .cons h .nil
  | (q, y) :: xs, (_, n) :: ms, .cons a b => by
    show MxM ((q, y) :: (xs ++ [(k, x)])) ((q, n) :: (ms ++ [(k, m)]))
    exact .cons a (mxm_snoc h xs ms b)
theorem perm_evs {fs es : List (List Int × Vl)} (p : fs.Perm es) : (evsM fs).length = (evsM es).length := by
  induction p with
  | nil => rfl
  | cons x _ ih =>
    obtain ⟨k, x⟩ := x
    show ((x.evs ++ evsM _).length + 1) = ((x.evs ++ evsM _).length + 1)
    rw [List.length_append, List.length_append, ih]
  | swap x y l =>
    obtain ⟨k, x⟩ := x
    obtain ⟨q, y⟩ := y
    show (y.evs ++ Ev.ky k :: (x.evs ++ evsM l)).length + 1 = (x.evs ++ Ev.ky q :: (y.evs ++ evsM l)).length + 1
    simp only [List.length_append, List.length_cons]
    omega
  | trans _ _ a b => exact a.trans b
/-- a row of entries by ms, all of whose values are mixed, is as long -/
theorem mxl_len {R : Vl → Prop} (ih : ∀ x m, R x → Mx x m → m.evs.length = x.evs.length) : ∀ {xs ms : List Vl}, (∀ x ∈ xs, R x) → MxL xs ms → (evsL ms).length = (evsL xs).length
  | [], [], _, .nil => rfl
  | x :: xs, m :: ms, hr, .cons a b => by
    show (m.evs ++ evsL ms).length = (x.evs ++ evsL xs).length
    rw [List.length_append, List.length_append, ih x m (hr x (List.mem_cons_self ..)) a, mxl_len ih (fun y hy => hr y (List.mem_cons_of_mem _ hy)) b]
theorem mxm_len {R : Vl → Prop} (ih : ∀ x m, R x → Mx x m → m.evs.length = x.evs.length) : ∀ {xs ms : List (List Int × Vl)}, (∀ e ∈ xs, R e.2) → MxM xs ms → (evsM ms).length = (evsM xs).length
  | [], [], _, .nil => rfl
  | (k, x) :: xs, (_, m) :: ms, hr, .cons a b => by
    show (m.evs ++ evsM ms).length + 1 = (x.evs ++ evsM xs).length + 1
    rw [List.length_append, List.length_append, ih x m (hr (k, x) (List.mem_cons_self ..)) a, mxm_len ih (fun y hy => hr y (List.mem_cons_of_mem _ hy)) b]
theorem mx_len : ∀ (n : Nat) (t m : Vl), t.ok n → Mx t m → m.evs.length = t.evs.length
  | _, .lf k r, _, _, .lf _ _ => rfl
  | 0, .ls _, _, h, _ => h.elim
  | 0, .mp _, _, h, _ => h.elim
  | n + 1, .ls xs, _, h, .ls (ms := ms) q => by
    rw [evsL_len, evsL_len, mxl_len (R := fun x => x.ok n) (fun x m => mx_len n x m) (fun x hx => vokL_mem h.2 x hx) q]
  | n + 1, .mp es, _, h, .mp (fs := fs) (ms := ms) p q => by
    rw [evsM_len, evsM_len, mxm_len (R := fun x => x.ok n) (fun x m => mx_len n x m) (fun x hx => vokM_mem h.2.2.2 x (p.mem_iff.mp hx)) q, perm_evs p]
abbrev s__law_mixed : Stmt := (top 21)
theorem sc__law_mixed : FnScope ["state", "value", "found", "item", "entries", "entry"] ["state", "value"] (defScope s__law_mixed) := ⟨rfl, rfl, rfl, by decide +kernel, rfl, by decide +kernel, by decide +kernel⟩
def sp__law_mixed (K : Frg) (n : Nat) : Sp := sp2 fun s a H Q _ => ∃ (S : SC) (t : Vl) (d : Nat), s = .ref S.a ∧ LS K S H ∧ t.ok d ∧ d < n ∧ Tp H a t.dat ∧ t.evs.length ≤ 16000000 ∧
  ∀ (p : Addr) (vs : List V) (m : Vl) (H' : Hp), Mx t m → p ≠ S.a → H' p = some (.lst vs) → TpAll H' vs (evD m.evs) → LS K S H' → Keep S H H' → Q (.ref p) H'
theorem no__law_mixed {K : Frg} {vs : List V} {H : Hp} {Q : VK} {E : XK} (h : sp__law_mixed K 0 vs H Q E) : False := by
  obtain ⟨_, _, rfl, S, t, d, _, _, _, h, _⟩ := h
  exact absurd h (Nat.not_lt_zero _)

section
variable {P : Program} {w : World} {K : PySem.W.Frag} {mg : Str → Option Value} {base : Heap} {f : Addr} {fd : FuncData}
theorem tpAll_ins {H : Hp} {x : V} {k : List Int} {c : Vl} (hx : Tp H x (.tuple [kd k, c.dat])) : ∀ (j : Nat) (us : List V) (fs : List (List Int × Vl)), TpAll H us (datM fs) → TpAll H (us.take j ++ [x] ++ us.drop j) (datM (fs.take j ++ [(k, c)] ++ fs.drop j))
  | 0, us, fs, h => .cons hx h
  | j + 1, us, [], h => by
    cases h
    exact .cons hx .nil
  | j + 1, us, (q, y) :: fs, h => by
    cases h with
    | cons h1 h2 => exact .cons h1 (tpAll_ins hx j _ fs h2)
theorem perm_ins {α : Type} (fs : List α) (j : Nat) (e : α) : (fs.take j ++ [e] ++ fs.drop j).Perm (fs ++ [e]) := by
  rw [List.append_assoc]
  refine (List.Perm.append_left _ List.perm_append_comm).trans ?_
  rw [← List.append_assoc, List.take_append_drop]
theorem ok__law_mixed (n : Nat) (F : FunD K "_law_mixed" "_law_mixed" (defArgs s__law_mixed) (defBody s__law_mixed) (defScope s__law_mixed) [] [] (glAd "_law_mixed" K) fd) (m : mg "_law_mixed" = some (.ref (glAd "_law_mixed" K))) (nb : Nm K mg) (c__law_next : Cal P w K mg base 1 "_law_next" (sp__law_next K) []) (c__law_mixed : Cal P w K mg base (2 + n) "_law_mixed" (sp__law_mixed K n) []) : Cal P w K mg base (2 + n + 1) "_law_mixed" (sp__law_mixed K (n + 1)) [] := by
  refine calD F m sc__law_mixed (fun _ _ _ _ _ _ us hl => match us, hl with | [_, _], _ => rfl) len2 (fun cdv A outer s H vs Q E hr h => ⟨_, (pss_cons (ps_if (pt_cmpR op_eq (pe_ix ix_tup (pv 1) pe_int (fun _ _ => rfl)) pe_str (nomark _))
    (pss_cons (ps_set (i := 2) sc__law_mixed.nd rfl (Or.inl rfl) (pe_lst (pa_cons (pe_tup (pa_cons pe_str (pa_cons pe_str pa_nil))) pa_nil)))
    (pss_cons (ps_for PassesOwn.never rfl (pi_tup (pe_ix ix_tup (pv 1) pe_int (fun _ _ => rfl))) (pg_name (i := 3) sc__law_mixed.nd rfl (Or.inl rfl))
    (pss_one (ps_set (i := 2) sc__law_mixed.nd rfl (Or.inl rfl) (pe_op op_cat (pv 2) (pe_c c__law_mixed hr (by omega) rfl (pa_cons (pv 0) (pa_cons (pv 3) pa_nil)))))))
    (pss_one (ps_ret (pe_op op_cat (pv 2) (pe_lst (pa_cons (pe_tup (pa_cons pe_str pa_nil)) pa_nil)))))))
    pss_nil)
    (pss_cons (ps_if (pt_cmpR op_eq (pe_ix ix_tup (pv 1) pe_int (fun _ _ => rfl)) pe_str (nomark _))
    (pss_cons (ps_set (i := 4) sc__law_mixed.nd rfl (Or.inl rfl) (pe_lst pa_nil))
    (pss_cons (ps_for PassesOwn.never rfl (pi_tup (pe_ix ix_tup (pv 1) pe_int (fun _ _ => rfl))) (pg_name (i := 5) sc__law_mixed.nd rfl (Or.inl rfl))
    (pss_one (ps_expr (pe_bm PySem.F.plainAttrs_list PySem.F.slot_list_insert PySem.F.type_list_insert mt_insert (pv 4) (pa_cons (pe_c c__law_next hr (by omega) rfl (pa_cons (pv 0) (pa_cons (pe_op op_add (pe_callB call_len_seq (by rfl) nb.len PySem.boot_len (pa_cons (pv 4) pa_nil)) pe_int) pa_nil))) (pa_cons (pv 5) pa_nil))))))
    (pss_cons (ps_set (i := 2) sc__law_mixed.nd rfl (Or.inl rfl) (pe_lst (pa_cons (pe_tup (pa_cons pe_str (pa_cons pe_str pa_nil))) pa_nil)))
    (pss_cons (ps_for PassesOwn.never rfl (pi_list (pv 4)) (pg_name (i := 5) sc__law_mixed.nd rfl (Or.inl rfl))
    (pss_one (ps_set (i := 2) sc__law_mixed.nd rfl (Or.inl rfl) (pe_op op_cat (pe_op op_cat (pv 2) (pe_lst (pa_cons (pe_tup (pa_cons pe_str (pa_cons (pe_ix ix_tup (pv 5) pe_int (fun _ _ => rfl)) pa_nil))) pa_nil))) (pe_c c__law_mixed hr (by omega) rfl (pa_cons (pv 0) (pa_cons (pe_ix ix_tup (pv 5) pe_int (fun _ _ => rfl)) pa_nil)))))))
    (pss_one (ps_ret (pe_op op_cat (pv 2) (pe_lst (pa_cons (pe_tup (pa_cons pe_str pa_nil)) pa_nil)))))))))
    pss_nil)
    (pss_one (ps_ret (pe_lst (pa_cons (pe_tup (pa_cons pe_str (pa_cons (pv 1) pa_nil))) pa_nil)))))), ?_⟩)
  obtain ⟨_, v, rfl, S, t, d, rfl, L, ok, hd, tp, hb, h⟩ := h
  cases t with
  | lf k r =>
    obtain ⟨a, ws, rfl, ha, hw⟩ := tp_lf tp
    obtain ⟨n1, n2⟩ := lf_kind (show Lf k r by cases d <;> exact ok)
    walk_at "rd"
    refine r_ixT (SqT.of ha) at0 ?_
    walk_at "rd"
    refine r_iteN n1 ?_
    walk_at "rd"
    refine r_ixT (SqT.of ha) at0 ?_
    walk_at "rd"
    refine r_iteN n2 ?_
    walk_at "rd"
    refine ⟨by show 2 ≤ sizeLine; decide, fun T nT => ?_⟩
    have s1 := same_upd nT (.tup [.str "leaf", .ref a])
    have L1 := L.new nT (.tup [.str "leaf", .ref a])
    walk_at "rd"
    refine ⟨by show 1 ≤ sizeLine; decide, fun D nD => ?_⟩
    have s2 := same_upd nD (.lst [.ref T])
    exact h D _ (.lf k r) _ (.lf k r) (L1.ne_free nD) upd_same (.cons (tp_ev2 (s2 _ _ upd_same) (Tp.tk (Same.tk (s1.trans s2)) _ _ tp)) .nil) (L1.new nD _) (Keep.of (s1.trans s2))
  | ls xs =>
    obtain ⟨a, b, ws, rfl, ha, hb', hw⟩ := tp_ls tp
    rw [evsL_len] at hb
    have hwl : ws.length = xs.length := by rw [tpAll_len hw, datL_map, List.length_map]
    walk_at "rd"
    refine r_ixT (SqT.of ha) at0 ?_
    walk_at "rd"
    refine r_itep rfl ?_
    walk_at "rd"
    refine ⟨by show 2 ≤ sizeLine; decide, fun T nT => ?_⟩
    have s1 := same_upd nT (.tup [.str "open", .str "list"])
    have L1 := L.new nT (.tup [.str "open", .str "list"])
    walk_at "rd"
    refine ⟨by show 1 ≤ sizeLine; decide, fun D nD => ?_⟩
    have s2 := s1.trans (same_upd nD (.lst [.ref T]))
    have L2 := L1.new nD (.lst [.ref T])
    have tpT : Tp (upd (upd H T (.tup [.str "open", .str "list"])) D (.lst [.ref T])) (.ref T) (Ev.op false).dat := tp_ev2 (same_upd nD _ _ _ upd_same) (.str _)
    have hD : upd (upd H T (.tup [.str "open", .str "list"])) D (.lst [.ref T]) D = some (.lst [.ref T]) := upd_same
    have DS := L1.ne_free nD
    generalize upd (upd H T (.tup [.str "open", .str "list"])) D (.lst [.ref T]) = H2 at s2 L2 tpT hD ⊢
    walk_at "rd"
    refine r_ixT (SqT.of (s2 _ _ ha)) rfl ?_
    refine ⟨b, rfl, ⟨ws, SqT.of (s2 _ _ hb')⟩, r_eachT (xs := ws) (fun i σ H' => ∃ (p : Addr) (vs : List V) (ms : List Vl) (y3 y4 y5 : Option V), LS K S H' ∧ Keep S H H' ∧ MxL (xs.take i) ms ∧ p ≠ S.a ∧ H' p = some (.lst vs) ∧ TpAll H' vs (evD (.op false :: evsL ms)) ∧ σ = [some (.ref S.a), some (.ref a), some (.ref p), y3, y4, y5]) ⟨D, _, [], _, _, _, L2, Keep.of s2, .nil, DS, hD, .cons tpT .nil, rfl⟩ ?_ ?_ ?_⟩
    · rintro i σ H' ⟨p, vs, ms, y3, y4, y5, L', k3, _⟩
      exact SqT.of ((keep_tk L k3) _ _ hb')
    · rintro i x σ H3 hx ⟨p, vs, ms, y3, y4, y5, L3, k3, mx, pS, hp, htp, rfl⟩
      obtain ⟨dd, hdd, tpx⟩ := tpAll_get hw hx
      obtain ⟨c, hc, rfl⟩ := datL_get hdd
      obtain ⟨d, rfl⟩ : ∃ d', d = d' + 1 := by
        cases d with
        | zero => exact ok.elim
        | succ d => exact ⟨d, rfl⟩
      have hsub := evsL_sub hc
      have okc := vokL_mem ok.2 c (List.mem_of_getElem? hc)
      have hml : (evsL ms).length = (evsL (xs.take i)).length := mxl_len (R := fun x => x.ok d) (fun x m => mx_len d x m) (fun y hy => vokL_mem ok.2 y (List.mem_of_mem_take hy)) mx
      walk_at "rd"
      refine ⟨_, _, rfl, S, c, d, rfl, L3, okc, by omega, Tp.tk (keep_tk L k3) _ _ tpx, by omega, fun q us m H4 mq qS hq tq L4 k4 => ?_⟩
      have lv := tpAll_len htp
      have lu := tpAll_len tq
      have lm := mx_len d c m okc mq
      rw [evD_len, List.length_cons] at lv
      rw [evD_len] at lu
      refine r_catV (k4 _ _ pS hp) hq (by omega) fun p2 H5 np2 hp2 s5 => ?_
      refine ⟨p2, _, ms ++ [m], _, _, _, L4.same s5, (k3.trans k4).trans (Keep.of s5), ?_, L4.ne_free np2, hp2, ?_, rfl⟩
      · rw [take_one hc]
        exact mxl_snoc mq _ _ mx
      · rw [evsL_app, evsL_one, ← List.cons_append, evD_app]
        exact tpAll_app (TpAll.tk ((keep_tk L3 k4).trans (Same.tk s5)) _ _ htp) (TpAll.tk (Same.tk s5) _ _ tq)
    · rintro σ H3 ⟨p, vs, ms, y3, y4, y5, L3, k3, mx, pS, hp, htp, rfl⟩
      rw [hwl, List.take_length] at mx
      obtain ⟨d, rfl⟩ : ∃ d', d = d' + 1 := by
        cases d with
        | zero => exact ok.elim
        | succ d => exact ⟨d, rfl⟩
      have hml : (evsL ms).length = (evsL xs).length := mxl_len (R := fun x => x.ok d) (fun x m => mx_len d x m) (fun y hy => vokL_mem ok.2 y hy) mx
      have lv := tpAll_len htp
      rw [evD_len, List.length_cons] at lv
      walk_at "rd"
      refine ⟨by show 1 ≤ sizeLine; decide, fun T2 nT2 => ?_⟩
      have s4 := same_upd nT2 (.tup [.str "close"])
      have L4 := L3.new nT2 (.tup [.str "close"])
      walk_at "rd"
      refine ⟨by show 1 ≤ sizeLine; decide, fun D2 nD2 => ?_⟩
      have s5 := same_upd nD2 (.lst [.ref T2])
      have L5 := L4.new nD2 (.lst [.ref T2])
      refine r_catV ((s4.trans s5) _ _ hp) upd_same (by show _ + 1 ≤ _; omega) fun p2 H5 np2 hp2 s6 => ?_
      refine h p2 _ (.ls ms) H5 (.ls mx) (L5.ne_free np2) hp2 ?_ (L5.same s6) (k3.trans (Keep.of ((s4.trans s5).trans s6)))
      show TpAll H5 _ (evD ((.op false :: evsL ms) ++ [.cl]))
      rw [evD_app]
      exact tpAll_app (TpAll.tk (Same.tk ((s4.trans s5).trans s6)) _ _ htp) (.cons (tp_cl (s6 _ _ (s5 _ _ upd_same))) .nil)
  | mp es =>
    obtain ⟨a, b, ws, rfl, ha, hb', hw⟩ := tp_mp tp
    rw [evsM_len] at hb
    have hwl : ws.length = es.length := by rw [tpAll_len hw, datM_map, List.length_map]
    walk_at "rd"
    refine r_ixT (SqT.of ha) at0 ?_
    walk_at "rd"
    refine r_iteN str_list ?_
    walk_at "rd"
    refine r_ixT (SqT.of ha) at0 ?_
    walk_at "rd"
    refine r_itep rfl ?_
    walk_at "rd"
    refine ⟨Nat.zero_le _, fun E nE => ?_⟩
    have L1 := L.new nE (.lst [])
    have s1 := same_upd nE (.lst [])
    have ES := L.ne_free nE
    have hE : upd H E (.lst []) E = some (.lst []) := upd_same
    generalize upd H E (.lst []) = H1 at L1 s1 hE ⊢
    walk_at "rd"
    refine r_ixT (SqT.of (s1 _ _ ha)) rfl ?_
    refine ⟨b, rfl, ⟨ws, SqT.of (s1 _ _ hb')⟩, r_eachT (xs := ws) (fun i σ H' => ∃ (us : List V) (fs : List (List Int × Vl)) (y5 : Option V), LS K S H' ∧ Keep S H H' ∧ fs.Perm (es.take i) ∧ H' E = some (.lst us) ∧ TpAll H' us (datM fs) ∧ σ = [some (.ref S.a), some (.ref a), none, none, some (.ref E), y5]) ⟨[], [], _, L1, Keep.of s1, .nil, hE, .nil, rfl⟩ ?_ ?_ ?_⟩
    · rintro i σ H' ⟨us, fs, y5, L', k', _⟩
      exact SqT.of ((keep_tk L k') _ _ hb')
    · rintro i x σ H3 hx ⟨us, fs, y5, L3, k3, pm, hE3, tus, rfl⟩
      obtain ⟨dd, hdd, tpx⟩ := tpAll_get hw hx
      obtain ⟨k, c, hc, rfl⟩ := datM_get hdd
      have l49 : es.length ≤ 49 := by
        cases d with
        | zero => exact ok.elim
        | succ d => exact ok.1
      have hul : us.length ≤ 49 := by
        have q := tpAll_len tus
        rw [datM_map, List.length_map, pm.length_eq, List.length_take] at q
        omega
      walk_at "rd"
      refine ⟨tyL hE3, ?_⟩
      walk_at "rd"
      refine ⟨E, us, rfl, .inl (SqL.of hE3), ?_⟩
      walk_at "rd"
      refine d_next L3 (by omega) fun r H4 a4 b4 L4 k4 => ?_
      walk_at "rd"
      refine ⟨E, us, r, x, rfl, rfl, k4 _ _ ES hE3, Nat.lt_of_le_of_lt hul (by decide), a4, by omega, ?_⟩
      have tk4 := keep_tk L3 k4
      have tk5 : Tk H4 (upd H4 E (.lst (us.take r.toNat ++ [x] ++ us.drop r.toNat))) := tk_put (k4 _ _ ES hE3)
      refine ⟨_, fs.take r.toNat ++ [(k, c)] ++ fs.drop r.toNat, _, L.away nE L4 _, fun q o n hq => ?_, ?_, upd_same, ?_, rfl⟩
      · have nq : q ≠ E := fun e => by rw [e, nE] at hq; cases hq
        rw [upd_ne nq]
        exact k4 _ _ n (k3 _ _ n hq)
      · rw [take_one hc]
        exact (perm_ins _ _ _).trans (pm.append_right _)
      · exact TpAll.tk tk5 _ _ (tpAll_ins (Tp.tk ((keep_tk L k3).trans tk4) _ _ tpx) _ _ _ (TpAll.tk tk4 _ _ tus))
    rintro σ H3 ⟨us, fs, y5, L3, k3, pm, hE3, tus, rfl⟩
    rw [hwl, List.take_length] at pm
    walk_at "rd"
    refine ⟨by show 2 ≤ sizeLine; decide, fun T nT => ?_⟩
    have s4 := same_upd nT (.tup [.str "open", .str "map"])
    have L4 := L3.new nT (.tup [.str "open", .str "map"])
    walk_at "rd"
    refine ⟨by show 1 ≤ sizeLine; decide, fun D nD => ?_⟩
    have s5 := s4.trans (same_upd nD (.lst [.ref T]))
    have L5 := L4.new nD (.lst [.ref T])
    have tpT : Tp (upd (upd H3 T (.tup [.str "open", .str "map"])) D (.lst [.ref T])) (.ref T) (Ev.op true).dat := tp_ev2 (same_upd nD _ _ _ upd_same) (.str _)
    have hD : upd (upd H3 T (.tup [.str "open", .str "map"])) D (.lst [.ref T]) D = some (.lst [.ref T]) := upd_same
    have DS := L4.ne_free nD
    generalize upd (upd H3 T (.tup [.str "open", .str "map"])) D (.lst [.ref T]) = H5 at s5 L5 tpT hD ⊢
    have k5 := k3.trans (Keep.of s5)
    have hE5 := s5 _ _ hE3
    have tus5 := TpAll.tk (Same.tk s5) _ _ tus
    have hul : us.length = fs.length := by rw [tpAll_len tus, datM_map, List.length_map]
    have pe := perm_evs pm
    walk_at "rd"
    refine ⟨E, rfl, ⟨us, SqL.of hE5⟩, r_eachL (xs := us) (fun i σ H' => ∃ (p : Addr) (vs : List V) (ms : List (List Int × Vl)) (y3 y5 : Option V), LS K S H' ∧ Keep S H H' ∧ MxM (fs.take i) ms ∧ p ≠ S.a ∧ H' p = some (.lst vs) ∧ TpAll H' vs (evD (.op true :: evsM ms)) ∧ H' E = some (.lst us) ∧ TpAll H' us (datM fs) ∧ σ = [some (.ref S.a), some (.ref a), some (.ref p), y3, some (.ref E), y5]) ⟨D, _, [], _, _, L5, k5, .nil, DS, hD, .cons tpT .nil, hE5, tus5, rfl⟩ ?_ ?_ ?_⟩
    · rintro i σ H' ⟨p, vs, ms, y3, y5, L', k', _, _, _, _, q, _⟩
      exact SqL.of q
    · rintro i x σ H6 hx ⟨p, vs, ms, y3, y5, L6, k6, mx, pS, hp, htp, hE6, tus6, rfl⟩
      obtain ⟨dd, hdd, tpx⟩ := tpAll_get tus6 hx
      obtain ⟨k, c, hc, rfl⟩ := datM_get hdd
      obtain ⟨d, rfl⟩ : ∃ d', d = d' + 1 := by
        cases d with
        | zero => exact ok.elim
        | succ d => exact ⟨d, rfl⟩
      have hsub := evsM_sub hc
      have okc : c.ok d := vokM_mem ok.2.2.2 (k, c) (pm.mem_iff.mp (List.mem_of_getElem? hc))
      have hml : (evsM ms).length = (evsM (fs.take i)).length := mxm_len (R := fun x => x.ok d) (fun x m => mx_len d x m) (fun y hy => vokM_mem ok.2.2.2 y (pm.mem_iff.mp (List.mem_of_mem_take hy))) mx
      obtain ⟨et, eq, eu, rfl, g1, g2, g3⟩ := tp_en tpx
      have lv := tpAll_len htp
      rw [evD_len, List.length_cons] at lv
      walk_at "rd"
      refine r_ixT (SqT.of g1) at0 ?_
      walk_at "rd"
      refine ⟨by show 2 ≤ sizeLine; decide, fun T2 nT2 => ?_⟩
      have s7 := same_upd nT2 (.tup [.str "key", .ref eq])
      have L7 := L6.new nT2 (.tup [.str "key", .ref eq])
      walk_at "rd"
      refine ⟨by show 1 ≤ sizeLine; decide, fun D2 nD2 => ?_⟩
      have s8 := s7.trans (same_upd nD2 (.lst [.ref T2]))
      have L8 := L7.new nD2 (.lst [.ref T2])
      refine r_catV (s8 _ _ hp) upd_same (by show _ + 1 ≤ _; omega) fun p2 H9 np2 hp2 s9 => ?_
      have L9 := L8.same s9
      have p2S := L8.ne_free np2
      have tpK : Tp H9 (.ref T2) (Ev.ky k).dat := tp_ev2 (s9 _ _ (same_upd nD2 _ _ _ upd_same)) (tp_kd (s9 _ _ (s8 _ _ g2)))
      have s9 := s8.trans s9
      walk_at "rd"
      refine r_ixT (SqT.of (s9 _ _ g1)) rfl ?_
      walk_at "rd"
      refine ⟨_, _, rfl, S, c, d, rfl, L9, okc, by omega, Tp.tk (Same.tk s9) _ _ g3, by omega, fun q us2 m H10 mq qS hq tq L10 k10 => ?_⟩
      have lu := tpAll_len tq
      have lm := mx_len d c m okc mq
      rw [evD_len] at lu
      refine r_catV (k10 _ _ p2S hp2) hq (by rw [List.length_append]; show _ + 1 + _ ≤ _; omega) fun p3 H11 np3 hp3 s11 => ?_
      have tk10 := (keep_tk L9 k10).trans (Same.tk s11)
      refine ⟨p3, _, ms ++ [(k, m)], _, _, L10.same s11, ((k6.trans (Keep.of s9)).trans k10).trans (Keep.of s11), ?_, L10.ne_free np3, hp3, ?_, s11 _ _ (k10 _ _ ES (s9 _ _ hE6)), TpAll.tk ((Same.tk s9).trans tk10) _ _ tus6, rfl⟩
      · rw [take_one hc]
        exact mxm_snoc mq _ _ mx
      · rw [evsM_app, evsM_one, ← List.cons_append, evD_app]
        have e1 : evD (.ky k :: m.evs) = [(Ev.ky k).dat] ++ evD m.evs := rfl
        rw [e1, List.append_assoc]
        exact tpAll_app (TpAll.tk ((Same.tk s9).trans tk10) _ _ htp) (tpAll_app (.cons (Tp.tk tk10 _ _ tpK) .nil) (TpAll.tk (Same.tk s11) _ _ tq))
    · rintro σ H6 ⟨p, vs, ms, y3, y5, L6, k6, mx, pS, hp, htp, _, _, rfl⟩
      rw [hul, List.take_length] at mx
      obtain ⟨d, rfl⟩ : ∃ d', d = d' + 1 := by
        cases d with
        | zero => exact ok.elim
        | succ d => exact ⟨d, rfl⟩
      have hml : (evsM ms).length = (evsM fs).length := mxm_len (R := fun x => x.ok d) (fun x m => mx_len d x m) (fun y hy => vokM_mem ok.2.2.2 y (pm.mem_iff.mp hy)) mx
      have lv := tpAll_len htp
      rw [evD_len, List.length_cons] at lv
      walk_at "rd"
      refine ⟨by show 1 ≤ sizeLine; decide, fun T2 nT2 => ?_⟩
      have s7 := same_upd nT2 (.tup [.str "close"])
      have L7 := L6.new nT2 (.tup [.str "close"])
      walk_at "rd"
      refine ⟨by show 1 ≤ sizeLine; decide, fun D2 nD2 => ?_⟩
      have s8 := same_upd nD2 (.lst [.ref T2])
      have L8 := L7.new nD2 (.lst [.ref T2])
      refine r_catV ((s7.trans s8) _ _ hp) upd_same (by show _ + 1 ≤ _; omega) fun p2 H9 np2 hp2 s9 => ?_
      refine h p2 _ (.mp ms) H9 (.mp pm mx) (L8.ne_free np2) hp2 ?_ (L8.same s9) (k6.trans (Keep.of ((s7.trans s8).trans s9)))
      show TpAll H9 _ (evD ((.op true :: evsM ms) ++ [.cl]))
      rw [evD_app]
      exact tpAll_app (TpAll.tk (Same.tk ((s7.trans s8).trans s9)) _ _ htp) (.cons (tp_cl (s9 _ _ (s8 _ _ upd_same))) .nil)
theorem rec__law_mixed (F : FunD K "_law_mixed" "_law_mixed" (defArgs s__law_mixed) (defBody s__law_mixed) (defScope s__law_mixed) [] [] (glAd "_law_mixed" K) fd) (m : mg "_law_mixed" = some (.ref (glAd "_law_mixed" K))) (nb : Nm K mg) (c__law_next : Cal P w K mg base 1 "_law_next" (sp__law_next K) []) : ∀ n, Cal P w K mg base (2 + n) "_law_mixed" (sp__law_mixed K n) []
  | 0 => calD (k := 1) F m sc__law_mixed (fun _ _ _ _ _ _ us hl => match us, hl with | [_, _], _ => rfl) (fun _ _ _ _ h => (no__law_mixed h).elim) (fun _ _ _ _ _ _ _ _ _ h => (no__law_mixed h).elim)
  | n + 1 => ok__law_mixed n F m nb c__law_next (rec__law_mixed F m nb c__law_next n)
end

/-! ### deep equality -/
def rEqW (K : Frg) : R2 := fun x y H Q => ∃ d, Dp K H x d ∧ Dp K H y d ∧ d.canLay0 = true ∧ d.depth ≤ 150 ∧ Q (.bl true) H
def rNeW (K : Frg) : R2 := fun x y H Q => ∃ d, Dp K H x d ∧ Dp K H y d ∧ d.canLay0 = true ∧ d.depth ≤ 150 ∧ Q (.bl false) H
theorem op_eqW {X : Cx} {k : Nat} (hr : Room k X.A) : OpR X (compareOp .Eq) (rEqW X.K) := by
  intro pins s σ H x y v u Q I rx ry h
  obtain ⟨d, hd, he, sd, sl, q⟩ := h
  obtain ⟨as, r1⟩ := Dp.reads I d x v hd rx
  obtain ⟨bs, r2⟩ := Dp.reads I d y u he ry
  have := hr.un
  refine SeqAt.compareEq_reads r1 r2 sd sd (by rw [Nat.min_self]; omega) ?_
  rw [SeqAt.eqv_refl d sd]
  exact ⟨.bl true, H, I, rfl, q⟩
theorem op_neW {X : Cx} {k : Nat} (hr : Room k X.A) : OpR X (compareOp .NotEq) (rNeW X.K) := by
  intro pins s σ H x y v u Q I rx ry h
  obtain ⟨d, hd, he, sd, sl, q⟩ := h
  obtain ⟨as, r1⟩ := Dp.reads I d x v hd rx
  obtain ⟨bs, r2⟩ := Dp.reads I d y u he ry
  have := hr.un
  refine SeqAt.compareNe_reads r1 r2 sd sd (by rw [Nat.min_self]; omega) ?_
  rw [SeqAt.eqv_refl d sd]
  exact ⟨.bl false, H, I, rfl, q⟩
/-! ### what values look like to it -/
theorem lay_lf {k : Str} {r : List PyData} (h : Lf k r) : PyData.canLay0 (.str k) = true ∧ PyData.canLayAll0 r = true ∧ PyData.depthAll r ≤ 1 := by
  cases h with
  | null => exact ⟨by decide +kernel, rfl, Nat.zero_le _⟩
  | truth b => exact ⟨by decide +kernel, rfl, by simp [PyData.depthAll, PyData.depth]⟩
  | number m e => exact ⟨by decide +kernel, rfl, by simp [PyData.depthAll, PyData.depth]⟩
  | bytes os ho =>
    refine ⟨by decide +kernel, ?_, ?_⟩
    · show (PyData.canLay0 (kd os) && true) = true
      rw [Bool.and_true]
      exact lay_kd os
    · show max (kd os).depth 0 ≤ 1
      exact Nat.max_le.mpr ⟨depth_kd1 os, Nat.zero_le _⟩
  | text ps hp =>
    refine ⟨by decide +kernel, ?_, ?_⟩
    · show (PyData.canLay0 (kd ps) && true) = true
      rw [Bool.and_true]
      exact lay_kd ps
    · show max (kd ps).depth 0 ≤ 1
      exact Nat.max_le.mpr ⟨depth_kd1 ps, Nat.zero_le _⟩
theorem lay_list : PyData.canLay0 (.str "list") = true := by decide +kernel
theorem lay_map : PyData.canLay0 (.str "map") = true := by decide +kernel
mutual
theorem vl_lay : ∀ (n : Nat) (t : Vl), t.ok n → t.dat.canLay0 = true
  | n, .lf k r, h => by
    obtain ⟨h1, h2, _⟩ := lay_lf (show Lf k r by cases n <;> exact h)
    show (PyData.canLay0 (.str k) && PyData.canLayAll0 r) = true
    rw [h1, h2]
    rfl
  | 0, .ls xs, h => h.elim
  | n + 1, .ls xs, h => by
    show (PyData.canLay0 (.str "list") && (PyData.canLayAll0 (datL xs) && true)) = true
    rw [lay_list, vlL_lay n xs h.2]
    rfl
  | 0, .mp es, h => h.elim
  | n + 1, .mp es, h => by
    show (PyData.canLay0 (.str "map") && (PyData.canLayAll0 (datM es) && true)) = true
    rw [lay_map, vlM_lay n es h.2.2.2]
    rfl
theorem vlL_lay : ∀ (n : Nat) (xs : List Vl), vokL n xs → PyData.canLayAll0 (datL xs) = true
  | _, [], _ => rfl
  | n, x :: xs, h => by
    show (x.dat.canLay0 && PyData.canLayAll0 (datL xs)) = true
    rw [vl_lay n x h.1, vlL_lay n xs h.2]
    rfl
theorem vlM_lay : ∀ (n : Nat) (xs : List (List Int × Vl)), vokM n xs → PyData.canLayAll0 (datM xs) = true
  | _, [], _ => rfl
  | n, (k, x) :: xs, h => by
    show ((PyData.canLay0 (kd k) && (x.dat.canLay0 && true)) && PyData.canLayAll0 (datM xs)) = true
    rw [vl_lay n x h.1, vlM_lay n xs h.2, show PyData.canLay0 (kd k) = true from lay_kd k]
    rfl
end
mutual
theorem vl_depth : ∀ (n : Nat) (t : Vl), t.ok n → t.dat.depth ≤ 3 * n + 2
  | n, .lf k r, h => by
    obtain ⟨_, _, h3⟩ := lay_lf (show Lf k r by cases n <;> exact h)
    show max 0 (PyData.depthAll r) + 1 ≤ _
    omega
  | 0, .ls xs, h => h.elim
  | n + 1, .ls xs, h => by
    have q := vlL_depth n xs h.2
    show max 0 (max (PyData.depthAll (datL xs) + 1) 0) + 1 ≤ _
    omega
  | 0, .mp es, h => h.elim
  | n + 1, .mp es, h => by
    have q := vlM_depth n es h.2.2.2
    show max 0 (max (PyData.depthAll (datM es) + 1) 0) + 1 ≤ _
    omega
theorem vlL_depth : ∀ (n : Nat) (xs : List Vl), vokL n xs → PyData.depthAll (datL xs) ≤ 3 * n + 2
  | _, [], _ => Nat.zero_le _
  | n, x :: xs, h => by
    have q1 := vl_depth n x h.1
    have q2 := vlL_depth n xs h.2
    show max x.dat.depth (PyData.depthAll (datL xs)) ≤ _
    omega
theorem vlM_depth : ∀ (n : Nat) (xs : List (List Int × Vl)), vokM n xs → PyData.depthAll (datM xs) ≤ 3 * n + 3
  | _, [], _ => Nat.zero_le _
  | n, (k, x) :: xs, h => by
    have q1 := vl_depth n x h.1
    have q2 := vlM_depth n xs h.2
    have q3 := depth_kd1 k
    show max (max (kd k).depth (max x.dat.depth 0) + 1) (PyData.depthAll (datM xs)) ≤ _
    omega
end
/-! ### sorted lists of entries -/
theorem sorted_uniq : ∀ {zs ys : List (List Int × Vl)}, zs.Perm ys → (zs.map (·.1)).Pairwise (fun x y => HT.lexLt x y = true) → (ys.map (·.1)).Pairwise (fun x y => HT.lexLt x y = true) → zs = ys
  | [], ys, p, _, _ => (List.Perm.eq_nil p.symm).symm
  | z :: zs, [], p, _, _ => absurd p.length_eq (by simp)
  | z :: zs, y :: ys, p, h1, h2 => by
    rw [List.map_cons, List.pairwise_cons] at h1 h2
    have e : z = y := by
      rcases List.mem_cons.mp (p.mem_iff.mp (List.mem_cons_self (a := z) (l := zs))) with q | q
      · exact q
      · rcases List.mem_cons.mp (p.mem_iff.mpr (List.mem_cons_self (a := y) (l := ys))) with q2 | q2
        · exact q2.symm
        · have a := h2.1 z.1 (List.mem_map.mpr ⟨z, q, rfl⟩)
          have b := h1.1 y.1 (List.mem_map.mpr ⟨y, q2, rfl⟩)
          rw [lexLt_asym _ _ a] at b
          cases b
    subst e
    rw [sorted_uniq p.cons_inv h1.2 h2.2]
abbrev s_map_of : Stmt := (top 5)
theorem sc_map_of : FnScope ["entries", "table", "points", "value", "key"] ["entries"] (defScope s_map_of) := ⟨rfl, rfl, rfl, by decide +kernel, rfl, by decide +kernel, by decide +kernel⟩
abbrev s_list_of : Stmt := (top 4)
theorem sc_list_of : FnScope ["items"] ["items"] (defScope s_list_of) := ⟨rfl, rfl, rfl, by decide +kernel, rfl, by decide +kernel, by decide +kernel⟩
def EdAt (H : Hp) (e : Ent × Vl) : Prop := EntAt H e.1 ∧ Tp H (.ref e.1.u) e.2.dat
theorem EdAt.tk {H H' : Hp} {e : Ent × Vl} (k : Tk H H') (h : EdAt H e) : EdAt H' e := ⟨h.1.tk k, Tp.tk k _ _ h.2⟩
def pr (e : Ent × Vl) : List Int × Vl := (e.1.k, e.2)
def sp_list_of (K : Frg) : Sp := sp1 fun a H Q _ => ∃ p vs ts, a = .ref p ∧ H p = some (.lst vs) ∧ TpAll H vs (datL ts) ∧ ∀ v H', Tp H' v (Vl.ls ts).dat → Same H H' → Q v H'
def sp_map_of (K : Frg) : Sp := sp1 fun a H Q _ => ∃ p, ∃ es : List (Ent × Vl), a = .ref p ∧ H p = some (.lst (es.map fun e => V.ref e.1.t)) ∧ (∀ e ∈ es, EdAt H e) ∧ (es.map (·.1.k)).Nodup ∧ es.length ≤ 1000 ∧
  ∀ v zs H', zs.Perm (es.map pr) → (zs.map (·.1)).Pairwise (fun x y => HT.lexLt x y = true) → Tp H' v (Vl.mp zs).dat → Same H H' → Q v H'
def ik (k : List Int) : List L2.Key := k.map Sum.inl
theorem ik_inj {a b : List Int} (h : ik a = ik b) : a = b := by
  induction a generalizing b with
  | nil =>
    cases b with
    | nil => rfl
    | cons y b => cases h
  | cons x a ih =>
    cases b with
    | nil => cases h
    | cons y b =>
      injection h with h1 h2
      injection h1 with h1
      rw [h1, ih h2]
def tbl (es : List (Ent × Vl)) : List (List L2.Key × V) := es.map fun e => (ik e.1.k, V.ref e.1.u)
theorem tbl_none {k : List Int} : ∀ {es : List (Ent × Vl)}, (∀ e ∈ es, e.1.k ≠ k) → valV (tbl es) (ik k) = none
  | [], _ => rfl
  | e :: es, h => by
    show valV ((ik e.1.k, V.ref e.1.u) :: tbl es) (ik k) = none
    rw [valV_neg (fun q => h e (List.mem_cons_self ..) (ik_inj q))]
    exact tbl_none fun x hx => h x (List.mem_cons_of_mem _ hx)
theorem tbl_some : ∀ {es : List (Ent × Vl)} {e : Ent × Vl}, (es.map (·.1.k)).Nodup → e ∈ es → valV (tbl es) (ik e.1.k) = some (.ref e.1.u)
  | [], _, _, h => absurd h (by simp)
  | x :: es, e, hn, h => by
    rw [List.map_cons, List.nodup_cons] at hn
    show valV ((ik x.1.k, V.ref x.1.u) :: tbl es) (ik e.1.k) = _
    rcases List.mem_cons.mp h with q | q
    · subst q
      rw [valV_pos rfl]
    · rw [valV_neg (fun z => hn.1 (by rw [ik_inj z]; exact List.mem_map.mpr ⟨e, q, rfl⟩))]
      exact tbl_some hn.2 q
theorem tbl_put {k : List Int} {v : V} {es : List (Ent × Vl)} (h : ∀ e ∈ es, e.1.k ≠ k) : putK (tbl es) (ik k) v = tbl es ++ [(ik k, v)] := by
  unfold putK
  rw [valV_any, tbl_none h]
  rfl
theorem take_mem {α : Type} {l : List α} {i : Nat} {e : α} (h : e ∈ l.take i) : ∃ j, j < i ∧ l[j]? = some e := by
  obtain ⟨j, hj, e2⟩ := List.getElem_of_mem h
  rw [List.getElem_take] at e2
  rw [List.length_take] at hj
  exact ⟨j, by omega, by rw [List.getElem?_eq_getElem (by omega), e2]⟩
theorem tpa_eds {H : Hp} {cs : List (Ent × Vl)} (h : ∀ e ∈ cs, EdAt H e) : TpAll H (cs.map fun e => V.ref e.1.t) (datM (cs.map pr)) := by
  rw [datM_map, List.map_map]
  exact tpa_map fun e he => .tup (h e he).1.1 (.cons (tp_kd (h e he).1.2) (.cons (h e he).2 .nil))
theorem r_dget {σ : St} {H : Hp} {Q : VK} {td ty : TE} (h : td σ H fun x H1 => ty σ H1 fun y H2 => ∃ a v, x = .ref a ∧ DGet H2 a y (some v) ∧ Q v H2) : tDGet td ty σ H Q := h
theorem r_din {σ : St} {H : Hp} {Q : VK} {td ty : TE} (h : ty σ H fun y H1 => td σ H1 fun x H2 => ∃ a o, x = .ref a ∧ DGet H2 a y o ∧ Q (.bl o.isSome) H2) : tDIn ty td σ H Q := h
theorem r_dput {σ : St} {H : Hp} {n b c : St → Hp → Prop} {r : VK} {td ty tv : TE} (h : tv σ H fun v H1 => td σ H1 fun x H2 => ty σ H2 fun y H3 => ∃ a H4, x = .ref a ∧ DPut H3 a y v H4 ∧ n σ H4) : sDPut td ty tv ⟨n, r, b, c⟩ σ H := h
section
variable {P : Program} {w : World} {K : PySem.W.Frag} {mg : Str → Option Value} {base : Heap} {f : Addr} {fd : FuncData}
theorem ok_list_of (F : FunD K "list_of" "list_of" (defArgs s_list_of) (defBody s_list_of) (defScope s_list_of) [] [] (glAd "list_of" K) fd) (m : mg "list_of" = some (.ref (glAd "list_of" K))) (nb : Nm K mg) : Cal P w K mg base 1 "list_of" (sp_list_of K) [] := by
  refine calD F m sc_list_of (fun _ _ _ _ _ _ us hl => match us, hl with | [_], _ => rfl) len1 (fun cdv A outer s H vs Q E hr h => ⟨_, (pss_one (ps_ret (pe_tup (pa_cons pe_str (pa_cons (pe_callTy call_tuple_of (by rfl) nb.tuple (by decide +kernel) (pa_cons (pv 0) pa_nil)) pa_nil))))), ?_⟩)
  obtain ⟨_, rfl, p, vs, ts, rfl, hp, tp, h⟩ := h
  walk_at "rd"
  refine ⟨p, _, rfl, .inl ⟨SqL.of hp, fun t nt => ?_⟩⟩
  walk_at "rd"
  refine ⟨by show 2 ≤ sizeLine; decide, fun q nq => ?_⟩
  have s := (same_upd nt (.tup vs)).trans (same_upd nq (.tup [.str "list", .ref t]))
  exact h (.ref q) _ (.tup upd_same (.cons (.str _) (.cons (.tup (same_upd nq _ _ _ upd_same) (TpAll.tk (Same.tk s) _ _ tp)) .nil))) s
theorem ok_map_of (F : FunD K "map_of" "map_of" (defArgs s_map_of) (defBody s_map_of) (defScope s_map_of) [] [] (glAd "map_of" K) fd) (m : mg "map_of" = some (.ref (glAd "map_of" K))) (nb : Nm K mg) : Cal P w K mg base 1 "map_of" (sp_map_of K) [] := by
  refine calD F m sc_map_of (fun _ _ _ _ _ _ us hl => match us, hl with | [_], _ => rfl) len1 (fun cdv A outer s H vs Q E hr h => ⟨_, (pss_cons (ps_set (i := 1) sc_map_of.nd rfl (Or.inr rfl) pe_dnewT)
    (pss_cons (ps_for PassesOwn.never rfl (pi_list (pv 0)) (pg_tup rfl (pgs_cons (pg_name (i := 2) sc_map_of.nd rfl (Or.inl rfl)) (pgs_cons (pg_name (i := 3) sc_map_of.nd rfl (Or.inl rfl)) pgs_nil)))
    (pss_cons (ps_set (i := 4) sc_map_of.nd rfl (Or.inl rfl) (pe_callTy call_tuple_of (by rfl) nb.tuple (by decide +kernel) (pa_cons (pv 2) pa_nil)))
    (pss_cons (ps_if (pt_cmp (pc_din (hu_of hr) (pv 4) (pv 1)))
    (pss_one ps_never)
    pss_nil)
    (pss_one (ps_dput (hu_of hr) (pv 1) (pv 4) (pv 3) rfl)))))
    (pss_one (ps_ret (pe_tup (pa_cons pe_str (pa_cons (pe_callTy call_tuple_of (by rfl) nb.tuple (by decide +kernel) (pa_cons (pe_lc (own := [("key", 4)]) (g := gName 4) (tt := tYes) rfl sc_map_of.nd (pi_list (pe_callB (cr_sortedTD rfl hr.units) (by rfl) nb.sorted (by decide +kernel) (pa_cons (pv 1) pa_nil))) (blkOk_by (N := ["entries", "table", "points", "value", "key"]) (sc := defScope s_map_of) (by decide +kernel)) (fun _ _ _ _ _ => pg_name (i := 4) sc_map_of.nd rfl (Or.inl rfl)) (fun _ _ _ _ _ => pts_nil) (fun _ _ _ _ _ => (pe_tup (pa_cons (pv 4) (pa_cons (pe_dget (hu_of hr) (pv 1) (pv 4) (fun _ _ => rfl)) pa_nil))))) pa_nil)) pa_nil))))))), ?_⟩)
  obtain ⟨_, rfl, p, es, rfl, hp, he, hn, hl, h⟩ := h
  walk_at "rd"
  intro d nd
  have s1 := same_upd nd (.dT [])
  have hd1 : upd H d (.dT []) d = some (.dT (tbl [])) := upd_same
  generalize upd H d (.dT []) = H1 at s1 hd1 ⊢
  walk_at "rd"
  refine ⟨p, rfl, ⟨_, SqL.of (s1 _ _ hp)⟩, r_eachL (xs := es.map fun e => V.ref e.1.t) (fun i σ H' => ∃ (y2 y3 y4 : Option V), Same H H' ∧ H' d = some (.dT (tbl (es.take i))) ∧ σ = [some (.ref p), some (.ref d), y2, y3, y4]) ⟨none, none, none, s1, hd1, rfl⟩ ?_ ?_ ?_⟩
  · rintro i σ H' ⟨y2, y3, y4, s2, _⟩
    exact SqL.of (s2 _ _ hp)
  · rintro i x σ H2 hx ⟨y2, y3, y4, s2, hd2, rfl⟩
    obtain ⟨e, hi, rfl, et⟩ := map_get hx
    obtain ⟨⟨g1, g2⟩, g3⟩ := (he e (List.mem_of_getElem? hi)).tk (Same.tk s2)
    have hno : ∀ x ∈ es.take i, x.1.k ≠ e.1.k := fun x hx q => by
      obtain ⟨j, hj, hxj⟩ := take_mem hx
      have hpw := List.pairwise_iff_getElem.mp hn
      have h1 : j < es.length := (List.getElem?_eq_some_iff.mp hxj).1
      have h2 : i < es.length := (List.getElem?_eq_some_iff.mp hi).1
      have h3 := hpw j i (by rw [List.length_map]; exact h1) (by rw [List.length_map]; exact h2) hj
      rw [List.getElem_map, List.getElem_map, (List.getElem?_eq_some_iff.mp hxj).2, (List.getElem?_eq_some_iff.mp hi).2] at h3
      exact h3 q
    refine r_gtup (SqT.of g1) rfl ?_
    walk_at "rd"
    refine ⟨e.1.q, _, rfl, .inr ⟨SqT.of g2, ?_⟩⟩
    walk_at "rd"
    have eb : H2 e.1.q = some (.tup ((ik e.1.k).map kV)) := by
      rw [g2]
      unfold ik
      rw [kv_ints]
    refine r_din ?_
    walk_at "rd"
    refine ⟨d, _, rfl, DGet.t hd2 eb, ?_⟩
    rw [tbl_none hno]
    refine r_bl (r_iteF ?_)
    walk_at "rd"
    refine r_dput ?_
    walk_at "rd"
    refine ⟨d, _, rfl, DPut.t hd2 eb (small1000 (by unfold tbl; rw [List.length_map, List.length_take]; omega)), ?_⟩
    refine ⟨_, _, _, same_away s2 nd, ?_, rfl⟩
    rw [upd_same, tbl_put hno, et]
    unfold tbl
    rw [List.map_append]
    rfl
  · rintro σ H2 ⟨y2, y3, y4, s2, hd2, rfl⟩
    rw [List.length_map, List.take_length] at hd2
    walk_at "rd"
    refine ⟨d, _, es.map (·.1.k), rfl, hd2, ?_, fun l qs pq sq hq nl => ?_⟩
    · unfold tbl
      rw [List.map_map, List.map_map]
      rfl
    obtain ⟨zs, pz, ez⟩ := perm_up (fun e : Ent × Vl => e.1.k) pq
    have s3 := same_upd nl (.lst (qs.map fun z => V.ref z.1))
    have hl3 : upd H2 l (.lst (qs.map fun z => V.ref z.1)) l = some (.lst (qs.map fun z => V.ref z.1)) := upd_same
    generalize upd H2 l (.lst (qs.map fun z => V.ref z.1)) = H3 at s3 hl3 ⊢
    refine ⟨l, rfl, ⟨_, SqL.of hl3⟩, fun D nD => ?_⟩
    refine lc_list (xs := qs.map fun z => V.ref z.1) (fun j H' => ∃ cs : List (Ent × Vl), Same H3 H' ∧ H' D = some (.lst (cs.map fun c => V.ref c.1.t)) ∧ (∀ c ∈ cs, EdAt H' c) ∧ cs.map pr = (zs.take j).map pr) ⟨[], same_upd nD _, upd_same, fun _ h => absurd h (by simp), rfl⟩ (fun j H' _ hh => by obtain ⟨cs, h1, _⟩ := hh; exact SqL.of (h1 _ _ hl3)) ?_ ?_
    · rintro j x H4 hx ⟨cs, s4, hD4, hc, ec⟩
      obtain ⟨z, hj, rfl, _⟩ := map_get hx
      have hjz : (zs.map fun e => e.1.k)[j]? = some z.2 := by
        rw [ez, List.getElem?_map, hj]
        rfl
      rw [List.getElem?_map] at hjz
      obtain ⟨e, hje, hke⟩ := Option.map_eq_some_iff.mp hjz
      have hem : e ∈ es := pz.mem_iff.mp (List.mem_of_getElem? hje)
      have hqz := s4 _ _ (s3 _ _ (hq z (List.mem_of_getElem? hj)))
      have hlc : cs.length ≤ 1000 := by
        have q := congrArg List.length ec
        rw [List.length_map, List.length_map, List.length_take, pz.length_eq] at q
        omega
      walk_at "rd"
      refine ⟨rfl, ?_⟩
      walk_at "rd"
      have eb : H4 z.1 = some (.tup ((ik z.2).map kV)) := by
        rw [hqz]
        unfold ik
        rw [kv_ints]
      refine r_dget ?_
      walk_at "rd"
      refine ⟨d, .ref e.1.u, rfl, ?_, ?_⟩
      · have q := DGet.t (s4 _ _ (s3 _ _ hd2)) eb
        rw [← hke, tbl_some hn hem] at q
        exact q
      refine ⟨by show 2 ≤ sizeLine; decide, fun T nT => ?_⟩
      have s5 := same_upd nT (.tup [.ref z.1, .ref e.1.u])
      have hD5 := s5 _ _ hD4
      have tk5 := (Same.tk s5).trans (tk_put (o := .lst ((cs.map fun c => V.ref c.1.t) ++ [.ref T])) hD5)
      refine ⟨_, hD5, small1000 (by rw [List.length_map]; have q := congrArg List.length ec; rw [List.length_map, List.length_map, List.length_take, pz.length_eq] at q; have := (List.getElem?_eq_some_iff.mp hje).1; rw [pz.length_eq] at this; omega), cs ++ [(⟨T, z.1, e.1.u, z.2⟩, e.2)], same_away (s4.trans s5) nD, ?_, fun c hcm => ?_, ?_⟩
      · rw [upd_same, List.map_append]
        rfl
      · rcases List.mem_append.mp hcm with q | q
        · exact (hc c q).tk tk5
        · have e5 : c = (⟨T, z.1, e.1.u, z.2⟩, e.2) := by simpa using q
          subst e5
          refine ⟨⟨tk_put hD5 _ _ upd_same, tk5 _ _ hqz⟩, ?_⟩
          exact Tp.tk tk5 _ _ (Tp.tk (Same.tk ((s2.trans s3).trans s4)) _ _ (he e hem).2)
      · rw [List.map_append, ec, take_one hje, List.map_append]
        show _ ++ [(z.2, e.2)] = _ ++ [(e.1.k, e.2)]
        rw [← hke]
    · rintro H4 ⟨cs, s4, hD4, hc, ec⟩
      rw [List.length_map] at ec
      have hql : qs.length = zs.length := by
        have q := congrArg List.length ez
        rw [List.length_map, List.length_map] at q
        exact q.symm
      rw [hql, List.take_length] at ec
      walk_at "rd"
      refine ⟨D, _, rfl, .inl ⟨SqL.of hD4, fun t nt => ?_⟩⟩
      walk_at "rd"
      refine ⟨by show 2 ≤ sizeLine; decide, fun q nq => ?_⟩
      have s6 := (same_upd nt (.tup (cs.map fun c => V.ref c.1.t))).trans (same_upd nq (.tup [.str "map", .ref t]))
      refine h (.ref q) (zs.map pr) _ (pz.map pr) ?_ (.tup upd_same (.cons (.str _) (.cons (.tup (same_upd nq _ _ _ upd_same) ?_) .nil))) (((s2.trans s3).trans s4).trans s6)
      · have e2 : (zs.map pr).map (·.1) = qs.map (·.2) := by
          rw [List.map_map, ← ez]
          rfl
        rw [e2]
        exact sq
      · rw [← ec]
        have hc6 : ∀ c ∈ cs, EdAt _ c := fun c hm => (hc c hm).tk (Same.tk s6)
        exact tpa_eds hc6
end

/-! ### frames -/
abbrev s_Frame___init__ : Stmt := (inClass (top 7) 0)
theorem sc_Frame___init__ : FnScope ["self", "kind"] ["self", "kind"] (defScope s_Frame___init__) := ⟨rfl, rfl, rfl, by decide +kernel, rfl, by decide +kernel, by decide +kernel⟩
abbrev s_Frame_put : Stmt := (inClass (top 7) 1)
theorem sc_Frame_put : FnScope ["self", "value"] ["self", "value"] (defScope s_Frame_put) := ⟨rfl, rfl, rfl, by decide +kernel, rfl, by decide +kernel, by decide +kernel⟩
abbrev s_Frame_built : Stmt := (inClass (top 7) 2)
theorem sc_Frame_built : FnScope ["self"] ["self"] (defScope s_Frame_built) := ⟨rfl, rfl, rfl, by decide +kernel, rfl, by decide +kernel, by decide +kernel⟩
def FrAt (K : Frg) (H : Hp) (a l : Addr) (kind : Str) (key : V) (vs : List V) : Prop := ∃ dx, H a = some (.ins (C_Frame K) dx (fs_Frame (.str kind) key (.ref l))) ∧ H l = some (.lst vs)
theorem fr_ne {K : Frg} {H : Hp} {a l : Addr} {kind : Str} {key : V} {vs : List V} (h : FrAt K H a l kind key vs) : l ≠ a := by
  obtain ⟨dx, h1, h2⟩ := h
  rintro rfl
  rw [h1] at h2
  cases h2
theorem FrAt.same {K : Frg} {H H' : Hp} {a l : Addr} {kind : Str} {key : V} {vs : List V} (s : Same H H') (h : FrAt K H a l kind key vs) : FrAt K H' a l kind key vs := by
  obtain ⟨dx, h1, h2⟩ := h
  exact ⟨dx, s _ _ h1, s _ _ h2⟩
def sp_Frame___init__ (K : Frg) : Sp := sp2 fun p o H Q _ => ∃ a dx kind, p = .ref a ∧ o = .str kind ∧ H a = some (.ins (C_Frame K) dx []) ∧ ∀ l H', H l = none → l ≠ a → FrAt K H' a l kind .non [] → (∀ b u, b ≠ a → H b = some u → H' b = some u) → Q .non H'
def sp_Frame_put (K : Frg) : Sp := sp2 fun p o H Q _ => ∃ a l kind key vs, p = .ref a ∧ FrAt K H a l kind key vs ∧ vs.length ≤ 1000 ∧
  (kind = "map" → ∀ T H', H T = none → H' T = some (.tup [key, o]) → FrAt K H' a l kind key (vs ++ [.ref T]) → Bt l H H' → Q .non H') ∧
  (kind ≠ "map" → ∀ H', FrAt K H' a l kind key (vs ++ [o]) → Bt l H H' → Q .non H')
def sp_Frame_built (K : Frg) : Sp := sp1 fun p H Q _ => ∃ a l kind key vs, p = .ref a ∧ FrAt K H a l kind key vs ∧
  (kind = "map" → ∃ es : List (Ent × Vl), vs = es.map (fun e => V.ref e.1.t) ∧ (∀ e ∈ es, EdAt H e) ∧ (es.map (·.1.k)).Nodup ∧ es.length ≤ 1000 ∧
    ∀ v zs H', zs.Perm (es.map pr) → (zs.map (·.1)).Pairwise (fun x y => HT.lexLt x y = true) → Tp H' v (Vl.mp zs).dat → Same H H' → Q v H') ∧
  (kind ≠ "map" → ∃ ts, TpAll H vs (datL ts) ∧ ∀ v H', Tp H' v (Vl.ls ts).dat → Same H H' → Q v H')
section
variable {P : Program} {w : World} {K : PySem.W.Frag} {mg : Str → Option Value} {base : Heap} {f : Addr} {fd : FuncData}
theorem ok_Frame___init__ (F : FunD K "__init__" "Frame.__init__" (defArgs s_Frame___init__) (defBody s_Frame___init__) (defScope s_Frame___init__) [] [] (meAd "Frame" "__init__" K) fd) (nb : Nm K mg) : Mak P w K mg base 1 "Frame" (C_Frame K) (sp_Frame___init__ K) [] := by
  refine makD F nb.mk_Frame nb.g_Frame sc_Frame___init__ (fun _ _ _ _ _ _ us hl => match us, hl with | [_, _], _ => rfl) len2 (fun cdv A outer s H vs Q E hr h => ⟨_, (pss_cons (ps_fld (pv 0) (pv 1) rfl)
    (pss_cons (ps_fld (pv 0) pe_non rfl)
    (pss_one (ps_fld (pv 0) (pe_lst pa_nil) rfl)))), ?_⟩)
  obtain ⟨_, _, rfl, a, dx, kind, rfl, rfl, hA, h⟩ := h
  walk_at "rd"
  refine r_fsetK hA nb.cl_Frame nb.na_Frame_kind (by decide) (in_Frame_kind) fun H1 hA1 f1 => ?_
  walk_at "rd"
  refine r_fsetK hA1 nb.cl_Frame nb.na_Frame_key (by simp) (in_Frame_key) fun H2 hA2 f2 => ?_
  walk_at "rd"
  refine ⟨Nat.zero_le _, fun l hl => ?_⟩
  have hne : l ≠ a := fun z => by rw [z, hA2] at hl; cases hl
  have hl0 : H l = none := by
    rw [f2 l hne, f1 l hne] at hl
    exact hl
  have hA3 : upd H2 l (.lst []) a = some _ := (upd_ne (Ne.symm hne)).trans hA2
  have hL3 : upd H2 l (.lst []) l = some (.lst []) := upd_same
  have f3 : ∀ b u, b ≠ a → H b = some u → upd H2 l (.lst []) b = some u := fun b u h1 h2 => same_upd hl _ b u (by rw [f2 b h1, f1 b h1]; exact h2)
  generalize upd H2 l (.lst []) = H3 at hA3 hL3 f3 ⊢
  walk_at "rd"
  refine r_fsetK hA3 nb.cl_Frame nb.na_Frame_inside (by simp) (in_Frame_inside) fun H4 hA4 f4 => ?_
  exact h l H4 hl0 hne ⟨dx, hA4, by rw [f4 l hne]; exact hL3⟩ fun b u h1 h2 => by rw [f4 b h1]; exact f3 b u h1 h2
theorem ok_Frame_put (F : FunD K "put" "Frame.put" (defArgs s_Frame_put) (defBody s_Frame_put) (defScope s_Frame_put) [] [] (meAd "Frame" "put" K) fd) (nb : Nm K mg) : Met P w K mg base 1 (C_Frame K) "put" (sp_Frame_put K) [] := by
  refine metD F nb.cl_Frame nb.me_Frame_put sc_Frame_put (fun _ _ _ _ _ _ us hl => match us, hl with | [_, _], _ => rfl) len2 (fun cdv A outer s H vs Q E hr h => ⟨_, (pss_one (ps_if (pt_cmpR op_eq (pe_fld (pv 0) rfl) pe_str (nomark _))
    (pss_one (ps_expr (pe_bm PySem.F.plainAttrs_list PySem.F.slot_list_append PySem.F.type_list_append mt_append (pe_fld (pv 0) rfl) (pa_cons (pe_tup (pa_cons (pe_fld (pv 0) rfl) (pa_cons (pv 1) pa_nil))) pa_nil))))
    (pss_one (ps_expr (pe_bm PySem.F.plainAttrs_list PySem.F.slot_list_append PySem.F.type_list_append mt_append (pe_fld (pv 0) rfl) (pa_cons (pv 1) pa_nil)))))), ?_⟩)
  obtain ⟨_, v, rfl, a, l, kind, key, vs, rfl, hF, hlen, h1, h2⟩ := h
  have hne := fr_ne hF
  obtain ⟨dx, hA, hL⟩ := id hF
  walk_at "rd"
  refine r_fget hA nb.cl_Frame nb.na_Frame_kind lk_Frame_kind ?_
  walk_at "rd"
  refine r_ite (fun c => ?_) (fun c => ?_)
  · walk_at "rd"
    refine r_fget hA nb.cl_Frame nb.na_Frame_inside lk_Frame_inside ?_
    refine ⟨tyL hL, ?_⟩
    walk_at "rd"
    refine r_fget hA nb.cl_Frame nb.na_Frame_key lk_Frame_key ?_
    walk_at "rd"
    refine ⟨by show 2 ≤ sizeLine; decide, fun T nT => ?_⟩
    have s1 := same_upd nT (.tup [key, v])
    walk_at "rd"
    refine r_appK (s1 _ _ hL) (small1000 (by omega) |> fun z => z) fun H2 hL2 f2 => ?_
    have lT : T ≠ l := fun e => by rw [e, hL] at nT; cases nT
    exact h1 c T H2 nT (by rw [f2 T lT, upd_same]) ⟨dx, by rw [f2 a (Ne.symm hne)]; exact s1 _ _ hA, hL2⟩ fun b u n1 z => by rw [f2 b n1]; exact s1 _ _ z
  · walk_at "rd"
    refine r_fget hA nb.cl_Frame nb.na_Frame_inside lk_Frame_inside ?_
    refine ⟨tyL hL, ?_⟩
    walk_at "rd"
    refine r_appK hL (small1000 (by omega)) fun H2 hL2 f2 => ?_
    exact h2 c H2 ⟨dx, by rw [f2 a (Ne.symm hne)]; exact hA, hL2⟩ fun b u n1 z => by rw [f2 b n1]; exact z
theorem ok_Frame_built (F : FunD K "built" "Frame.built" (defArgs s_Frame_built) (defBody s_Frame_built) (defScope s_Frame_built) [] [] (meAd "Frame" "built" K) fd) (nb : Nm K mg) (c_list_of : Cal P w K mg base 1 "list_of" (sp_list_of K) []) (c_map_of : Cal P w K mg base 1 "map_of" (sp_map_of K) []) : Met P w K mg base 2 (C_Frame K) "built" (sp_Frame_built K) [] := by
  refine metD F nb.cl_Frame nb.me_Frame_built sc_Frame_built (fun _ _ _ _ _ _ us hl => match us, hl with | [_], _ => rfl) len1 (fun cdv A outer s H vs Q E hr h => ⟨_, (pss_cons (ps_if (pt_cmpR op_eq (pe_fld (pv 0) rfl) pe_str (nomark _))
    (pss_one (ps_ret (pe_c c_map_of hr (by decide) rfl (pa_cons (pe_fld (pv 0) rfl) pa_nil))))
    pss_nil)
    (pss_one (ps_ret (pe_c c_list_of hr (by decide) rfl (pa_cons (pe_fld (pv 0) rfl) pa_nil))))), ?_⟩)
  obtain ⟨_, rfl, a, l, kind, key, vs, rfl, ⟨dx, hA, hL⟩, h1, h2⟩ := h
  walk_at "rd"
  refine r_fget hA nb.cl_Frame nb.na_Frame_kind lk_Frame_kind ?_
  walk_at "rd"
  refine r_ite (fun c => ?_) (fun c => ?_)
  · obtain ⟨es, rfl, he, hn, hl, hq⟩ := h1 c
    walk_at "rd"
    refine r_fget hA nb.cl_Frame nb.na_Frame_inside lk_Frame_inside ?_
    walk_at "rd"
    exact ⟨_, rfl, l, es, rfl, hL, he, hn, hl, hq⟩
  · obtain ⟨ts, ht, hq⟩ := h2 c
    walk_at "rd"
    refine r_fget hA nb.cl_Frame nb.na_Frame_inside lk_Frame_inside ?_
    walk_at "rd"
    exact ⟨_, rfl, l, vs, ts, rfl, hL, ht, hq⟩
end

/-! ### the builder, as it ought to be -/
structure Pf where
  m : Bool
  k : Option (List Int)
  ins : List (List Int × Vl)
structure Bs where
  fs : List Pf
  val : Option Vl
def sortM (es : List (List Int × Vl)) : List (List Int × Vl) := es.mergeSort fun a b => !HT.lexLt b.1 a.1
theorem sortM_perm (es : List (List Int × Vl)) : (sortM es).Perm es := List.mergeSort_perm es _
theorem sortM_strict {es : List (List Int × Vl)} (h : (es.map (·.1)).Nodup) : ((sortM es).map (·.1)).Pairwise (fun x y => HT.lexLt x y = true) := by
  have h1 := List.pairwise_mergeSort (le := fun (a b : List Int × Vl) => !HT.lexLt b.1 a.1) (fun a b c q1 q2 => by
    simp only [Bool.not_eq_true'] at q1 q2 ⊢
    exact lexLt_ntr _ _ _ q1 q2) (fun a b => by
    cases q : HT.lexLt b.1 a.1 with
    | false => rfl
    | true => rw [lexLt_asym _ _ q]; rfl) es
  refine strict_of ?_ (((sortM_perm es).map (·.1)).nodup_iff.mpr h)
  rw [List.pairwise_map]
  exact h1.imp fun {a b} q => by simpa using q
theorem strict_nodup {l : List (List Int)} (h : l.Pairwise (fun x y => HT.lexLt x y = true)) : l.Nodup := h.imp fun {a b} q e => by
  subst e
  rw [lexLt_irr] at q
  cases q
theorem sortM_uniq {zs es : List (List Int × Vl)} (p : zs.Perm es) (s : (zs.map (·.1)).Pairwise (fun x y => HT.lexLt x y = true)) : zs = sortM es :=
  sorted_uniq (p.trans (sortM_perm es).symm) s (sortM_strict ((p.map (·.1)).nodup_iff.mp (strict_nodup s)))
theorem sortM_id {es : List (List Int × Vl)} (s : (es.map (·.1)).Pairwise (fun x y => HT.lexLt x y = true)) : sortM es = es := (sortM_uniq (List.Perm.refl es) s).symm
def Bs.putv (st : Bs) (v : Vl) : Bs := match st.fs with
  | [] => ⟨[], some v⟩
  | f :: r => ⟨⟨f.m, f.k, f.ins ++ [(if f.m then f.k.getD [] else [], v)]⟩ :: r, st.val⟩
def Pf.built (f : Pf) : Vl := if f.m then .mp (sortM f.ins) else .ls (f.ins.map (·.2))
def Bs.step (st : Bs) : Ev → Bs
  | .op m => ⟨⟨m, none, []⟩ :: st.fs, st.val⟩
  | .ky k => match st.fs with
    | [] => st
    | f :: r => ⟨⟨f.m, some k, f.ins⟩ :: r, st.val⟩
  | .lf k r => st.putv (.lf k r)
  | .cl => match st.fs with
    | [] => st
    | f :: r => (Bs.mk r st.val).putv f.built
def Bs.ready (st : Bs) : Prop := ∀ f r, st.fs = f :: r → (f.m = true → ∃ k, f.k = some k) ∧ f.ins.length ≤ 900
def Bs.valid (st : Bs) : Ev → Prop
  | .op _ => st.fs.length ≤ 900
  | .ky _ => ∃ f r, st.fs = f :: r
  | .lf _ _ => st.ready
  | .cl => ∃ f r, st.fs = f :: r ∧ (f.m = true → (f.ins.map (·.1)).Nodup) ∧ f.ins.length ≤ 900 ∧ (Bs.mk r st.val).ready
/-! ### .. and where it stands -/
structure Cf where
  a : Addr
  l : Addr
  f : Pf
def FmAt (K : Frg) (H : Hp) (c : Cf) : Prop := ∃ key vs, FrAt K H c.a c.l (kindOf_ c.f.m) key vs ∧ (∀ k, c.f.k = some k → ∃ q, key = .ref q ∧ H q = some (.tup (k.map V.int))) ∧
  (c.f.m = true → ∃ es : List (Ent × Vl), vs = es.map (fun e => V.ref e.1.t) ∧ (∀ e ∈ es, EdAt H e) ∧ c.f.ins = es.map pr) ∧ (c.f.m = false → TpAll H vs (datL (c.f.ins.map (·.2))))
theorem FmAt.keep {K : Frg} {H H' : Hp} {c : Cf} (h : FmAt K H c) (ha : ∀ u, H c.a = some u → H' c.a = some u) (hl : ∀ u, H c.l = some u → H' c.l = some u) (tk : Tk H H') : FmAt K H' c := by
  obtain ⟨key, vs, ⟨dx, h1, h2⟩, h3, h4, h5⟩ := h
  refine ⟨key, vs, ⟨dx, ha _ h1, hl _ h2⟩, fun k e => ?_, fun e => ?_, fun e => TpAll.tk tk _ _ (h5 e)⟩
  · obtain ⟨q, e1, e2⟩ := h3 k e
    exact ⟨q, e1, tk _ _ e2⟩
  · obtain ⟨es, e1, e2, e3⟩ := h4 e
    exact ⟨es, e1, fun x hx => (e2 x hx).tk tk, e3⟩
def ownC (cs : List Cf) : List Addr := cs.flatMap fun c => [c.a, c.l]
def own (b fl : Addr) (cs : List Cf) : List Addr := b :: fl :: ownC cs
theorem ownC_mem {cs : List Cf} {c : Cf} (h : c ∈ cs) : c.a ∈ ownC cs ∧ c.l ∈ ownC cs := ⟨List.mem_flatMap.mpr ⟨c, h, by simp⟩, List.mem_flatMap.mpr ⟨c, h, by simp⟩⟩
def ValAt (H : Hp) (v : V) : Option Vl → Prop
  | none => v = .non
  | some t => Tp H v t.dat
theorem ValAt.tk {H H' : Hp} {v : V} (k : Tk H H') : ∀ {o : Option Vl}, ValAt H v o → ValAt H' v o
  | none, h => h
  | some t, h => Tp.tk k _ _ h
structure BAt (K : Frg) (H : Hp) (b fl : Addr) (st : Bs) (cs : List Cf) : Prop where
  bu : ∃ dx v, H b = some (.ins (C_Builder K) dx (fs_Builder (.bl st.val.isSome) v (.ref fl))) ∧ ValAt H v st.val
  li : H fl = some (.lst (cs.reverse.map fun c => V.ref c.a))
  fs : cs.map (·.f) = st.fs
  at_ : ∀ c ∈ cs, FmAt K H c
  nd : (own b fl cs).Nodup
/-- all that is not one's own stays -/
def Ow (o : List Addr) (H H' : Hp) : Prop := ∀ x u, x ∉ o → H x = some u → H' x = some u
theorem Ow.trans {o : List Addr} {H H1 H2 : Hp} (x : Ow o H H1) (y : Ow o H1 H2) : Ow o H H2 := fun a u n h => y a u n (x a u n h)
theorem Ow.of {o : List Addr} {H H' : Hp} (s : Same H H') : Ow o H H' := fun a u _ h => s a u h
theorem BAt.same {K : Frg} {H H' : Hp} {b fl : Addr} {st : Bs} {cs : List Cf} (s : Same H H') (h : BAt K H b fl st cs) : BAt K H' b fl st cs := by
  obtain ⟨⟨dx, v, h1, h2⟩, h3, h4, h5, h6⟩ := h
  exact ⟨⟨dx, v, s _ _ h1, h2.tk (Same.tk s)⟩, s _ _ h3, h4, fun c hc => (h5 c hc).keep (fun u => s _ _) (fun u => s _ _) (Same.tk s), h6⟩
/-- another's work leaves it alone -/
theorem BAt.away {K : Frg} {H H' : Hp} {b fl : Addr} {st : Bs} {cs : List Cf} {o : List Addr} (h : BAt K H b fl st cs) (w : Ow o H H') (tk : Tk H H') (n : ∀ x ∈ own b fl cs, x ∉ o) : BAt K H' b fl st cs := by
  obtain ⟨⟨dx, v, h1, h2⟩, h3, h4, h5, h6⟩ := h
  have nc : ∀ c ∈ cs, c.a ∉ o ∧ c.l ∉ o := fun c hc => ⟨n _ (List.mem_cons_of_mem _ (List.mem_cons_of_mem _ (ownC_mem hc).1)), n _ (List.mem_cons_of_mem _ (List.mem_cons_of_mem _ (ownC_mem hc).2))⟩
  exact ⟨⟨dx, v, w _ _ (n _ (List.mem_cons_self ..)) h1, h2.tk tk⟩, w _ _ (n _ (List.mem_cons_of_mem _ (List.mem_cons_self ..))) h3, h4, fun c hc => (h5 c hc).keep (fun u => w _ _ (nc c hc).1) (fun u => w _ _ (nc c hc).2) tk, h6⟩
abbrev s_Builder___init__ : Stmt := (inClass (top 8) 0)
theorem sc_Builder___init__ : FnScope ["self"] ["self"] (defScope s_Builder___init__) := ⟨rfl, rfl, rfl, by decide +kernel, rfl, by decide +kernel, by decide +kernel⟩
abbrev s_Builder_take : Stmt := (inClass (top 8) 1)
theorem sc_Builder_take : FnScope ["self", "event", "frame"] ["self", "event"] (defScope s_Builder_take) := ⟨rfl, rfl, rfl, by decide +kernel, rfl, by decide +kernel, by decide +kernel⟩
abbrev s_Builder__put : Stmt := (inClass (top 8) 2)
theorem sc_Builder__put : FnScope ["self", "value", "frame"] ["self", "value"] (defScope s_Builder__put) := ⟨rfl, rfl, rfl, by decide +kernel, rfl, by decide +kernel, by decide +kernel⟩
def sp_Builder___init__ (K : Frg) : Sp := sp1 fun p H Q _ => ∃ b dx, p = .ref b ∧ H b = some (.ins (C_Builder K) dx []) ∧ ∀ fl H', H fl = none → fl ≠ b → BAt K H' b fl ⟨[], none⟩ [] → (∀ x u, x ≠ b → H x = some u → H' x = some u) → Q .non H'
def sp_Builder__put (K : Frg) : Sp := sp2 fun p o H Q _ => ∃ b fl st cs t, p = .ref b ∧ BAt K H b fl st cs ∧ Tp H o t.dat ∧ st.ready ∧ st.val = none ∧ ∀ cs' H', BAt K H' b fl (st.putv t) cs' → own b fl cs' = own b fl cs → Ow (own b fl cs) H H' → Tk H H' → Q .non H'
def sp_Builder_take (K : Frg) : Sp := sp2 fun p o H Q _ => ∃ b fl st cs ev, p = .ref b ∧ BAt K H b fl st cs ∧ Tp H o (Ev.dat ev) ∧ st.valid ev ∧ st.val = none ∧ ∀ cs' H', BAt K H' b fl (st.step ev) cs' → (∀ x ∈ own b fl cs', x ∈ own b fl cs ∨ H x = none) → Ow (own b fl cs) H H' → Tk H H' → Q .non H'

theorem d_frame {K : Frg} {H : Hp} {R : Addr → Hp → Prop} {E : XK} {kind : Str} (h : ∀ a l H', H a = none → H l = none → l ≠ a → FrAt K H' a l kind .non [] → Same H H' → R a H') : ∀ x dx, H x = none → H dx = none → dx ≠ x → sp_Frame___init__ K (.ref x :: ([.str kind] ++ [])) (upd (upd H dx (.own x)) x (.ins (C_Frame K) dx [])) (fun v H2 => v = .non ∧ R x H2) E := by
  intro a dx ha hd hne
  refine ⟨_, _, rfl, a, dx, kind, rfl, rfl, upd_same, fun l H' hl hla hU g => ⟨rfl, ?_⟩⟩
  have hl0 : H l = none := by
    rw [upd_ne hla] at hl
    by_cases e : l = dx
    · rw [e] at hl ⊢
      exact hd
    · rw [upd_ne e] at hl
      exact hl
  refine h a l H' ha hl0 hla hU fun b u z => ?_
  have h1 : b ≠ a := fun e => by
    rw [e, ha] at z
    cases z
  have h2 : b ≠ dx := fun e => by
    rw [e, hd] at z
    cases z
  exact g b u h1 (by rw [upd_ne h1, upd_ne h2]; exact z)
theorem rev_map_cons (c : Cf) (cr : List Cf) : ((c :: cr).reverse.map fun c => V.ref c.a) = (cr.reverse.map fun c => V.ref c.a) ++ [V.ref c.a] := by
  rw [List.reverse_cons, List.map_append]
  rfl
theorem cs_cons {cs : List Cf} {f : Pf} {r : List Pf} (h : cs.map (·.f) = f :: r) : ∃ c cr, cs = c :: cr ∧ c.f = f ∧ cr.map (·.f) = r := by
  cases cs with
  | nil => cases h
  | cons c cr =>
    injection h with h1 h2
    exact ⟨c, cr, rfl, h1, h2⟩
theorem kind_map (m : Bool) : kindOf_ m = "map" ↔ m = true := by
  cases m with
  | true => exact ⟨fun _ => rfl, fun _ => rfl⟩
  | false => exact ⟨fun h => absurd h (by decide +kernel), fun h => by cases h⟩
theorem sub_own {b fl : Addr} {c : Cf} {cr : List Cf} : ∀ x ∈ own b fl cr, x ∈ own b fl (c :: cr) := fun x hx => by
  unfold own at hx ⊢
  rcases List.mem_cons.mp hx with e | hx
  · exact List.mem_cons.mpr (.inl e)
  · rcases List.mem_cons.mp hx with e | hx
    · exact List.mem_cons_of_mem _ (List.mem_cons.mpr (.inl e))
    · refine List.mem_cons_of_mem _ (List.mem_cons_of_mem _ ?_)
      show x ∈ [c.a, c.l] ++ ownC cr
      exact List.mem_append_right _ hx
section
variable {P : Program} {w : World} {K : PySem.W.Frag} {mg : Str → Option Value} {base : Heap} {f : Addr} {fd : FuncData}
theorem ok_Builder___init__ (F : FunD K "__init__" "Builder.__init__" (defArgs s_Builder___init__) (defBody s_Builder___init__) (defScope s_Builder___init__) [] [] (meAd "Builder" "__init__" K) fd) (nb : Nm K mg) : Mak P w K mg base 1 "Builder" (C_Builder K) (sp_Builder___init__ K) [] := by
  refine makD F nb.mk_Builder nb.g_Builder sc_Builder___init__ (fun _ _ _ _ _ _ us hl => match us, hl with | [_], _ => rfl) len1 (fun cdv A outer s H vs Q E hr h => ⟨_, (pss_cons (ps_fld (pv 0) pe_bl rfl)
    (pss_cons (ps_fld (pv 0) pe_non rfl)
    (pss_one (ps_fld (pv 0) (pe_lst pa_nil) rfl)))), ?_⟩)
  obtain ⟨_, rfl, b, dx, rfl, hA, h⟩ := h
  walk_at "rd"
  refine r_fsetK hA nb.cl_Builder nb.na_Builder_is_done (by decide) (in_Builder_is_done) fun H1 hA1 f1 => ?_
  walk_at "rd"
  refine r_fsetK hA1 nb.cl_Builder nb.na_Builder_value (by simp) (in_Builder_value) fun H2 hA2 f2 => ?_
  walk_at "rd"
  refine ⟨Nat.zero_le _, fun l hl => ?_⟩
  have hne : l ≠ b := fun z => by rw [z, hA2] at hl; cases hl
  have hl0 : H l = none := by
    rw [f2 l hne, f1 l hne] at hl
    exact hl
  have hA3 : upd H2 l (.lst []) b = some _ := (upd_ne (Ne.symm hne)).trans hA2
  have hL3 : upd H2 l (.lst []) l = some (.lst []) := upd_same
  have f3 : ∀ x u, x ≠ b → H x = some u → upd H2 l (.lst []) x = some u := fun x u h1 h2 => same_upd hl _ x u (by rw [f2 x h1, f1 x h1]; exact h2)
  generalize upd H2 l (.lst []) = H3 at hA3 hL3 f3 ⊢
  walk_at "rd"
  refine r_fsetK hA3 nb.cl_Builder nb.na_Builder__frames (by simp) (in_Builder__frames) fun H4 hA4 f4 => ?_
  refine h l H4 hl0 hne ⟨⟨dx, .non, hA4, rfl⟩, by rw [f4 l hne]; exact hL3, rfl, fun c hc => absurd hc (by simp), ?_⟩ fun x u h1 h2 => by rw [f4 x h1]; exact f3 x u h1 h2
  show [b, l].Nodup
  rw [List.nodup_cons]
  exact ⟨by simpa using Ne.symm hne, by simp⟩
theorem ok_Builder__put (F : FunD K "_put" "Builder._put" (defArgs s_Builder__put) (defBody s_Builder__put) (defScope s_Builder__put) [] [] (meAd "Builder" "_put" K) fd) (nb : Nm K mg) (m_Frame_put : Met P w K mg base 1 (C_Frame K) "put" (sp_Frame_put K) []) : Met P w K mg base 2 (C_Builder K) "_put" (sp_Builder__put K) [] := by
  refine metD F nb.cl_Builder nb.me_Builder__put sc_Builder__put (fun _ _ _ _ _ _ us hl => match us, hl with | [_, _], _ => rfl) len2 (fun cdv A outer s H vs Q E hr h => ⟨_, (pss_one (ps_if (pt_truth (pe_fld (pv 0) rfl) (by intro _; rfl))
    (pss_cons (ps_set (i := 2) sc_Builder__put.nd rfl (Or.inl rfl) (pe_ix ix_list (pe_fld (pv 0) rfl) (pe_un un_neg pe_int) (fun _ _ => rfl)))
    (pss_one (ps_expr (pe_mt m_Frame_put hr (by decide) (pv 2) (pa_cons (pv 1) pa_nil)))))
    (pss_cons (ps_fld (pv 0) (pv 1) rfl)
    (pss_one (ps_fld (pv 0) pe_bl rfl))))), ?_⟩)
  obtain ⟨_, v, rfl, b, fl, st, cs, t, rfl, B, tp, rdy, hval, h⟩ := h
  obtain ⟨⟨dx, bv, hb, hbv⟩, hli, hfs, hat, hnd⟩ := id B
  have hfb : fl ≠ b := fun e => by
    have := hnd
    unfold own at this
    rw [List.nodup_cons] at this
    exact this.1 (by rw [e]; exact List.mem_cons_self ..)
  walk_at "rd"
  refine r_fget hb nb.cl_Builder nb.na_Builder__frames lk_Builder__frames ?_
  cases hst : st.fs with
  | nil =>
    rw [hst] at hfs
    obtain rfl : cs = [] := List.map_eq_nil_iff.mp hfs
    refine ⟨false, .inl ⟨_, SqL.of hli, rfl⟩, ?_⟩
    walk_at "rd"
    refine r_fsetK hb nb.cl_Builder nb.na_Builder_value (few_Builder) pt_Builder_value fun H1 hA1 f1 => ?_
    walk_at "rd"
    refine r_fsetK hA1 nb.cl_Builder nb.na_Builder_is_done (few_Builder) pt_Builder_is_done fun H2 hA2 f2 => ?_
    have tk : Tk H H2 := fun x ys hx => by
      have n : x ≠ b := fun e => by rw [e, hb] at hx; cases hx
      rw [f2 x n, f1 x n]
      exact hx
    have e : st.putv t = ⟨[], some t⟩ := by
      unfold Bs.putv
      rw [hst]
    rw [e] at h
    refine h [] H2 ⟨⟨dx, v, hA2, Tp.tk tk _ _ tp⟩, by rw [f2 fl hfb, f1 fl hfb]; exact hli, rfl, fun c hc => absurd hc (by simp), hnd⟩ rfl (fun x u n hx => ?_) tk
    have n : x ≠ b := fun e => n (by rw [e]; exact List.mem_cons_self ..)
    rw [f2 x n, f1 x n]
    exact hx
  | cons pf r =>
    rw [hst] at hfs
    obtain ⟨c, cr, rfl, rfl, rfl⟩ := cs_cons hfs
    rw [rev_map_cons] at hli
    refine ⟨true, .inl ⟨_, SqL.of hli, by simp⟩, ?_⟩
    walk_at "rd"
    refine r_fget hb nb.cl_Builder nb.na_Builder__frames lk_Builder__frames ?_
    walk_at "rd"
    refine r_ixL (SqL.of hli) (atI_last _ _) ?_
    walk_at "rd"
    obtain ⟨key, vs, hF, hk, hmp, hls⟩ := hat c (List.mem_cons_self ..)
    obtain ⟨dxc, hca, hcl⟩ := id hF
    obtain ⟨rk, rl⟩ := rdy c.f _ hst
    have hvl : vs.length ≤ 900 := by
      cases hm : c.f.m with
      | true =>
        obtain ⟨es, e1, e2, e3⟩ := hmp hm
        rw [e1, List.length_map]
        rw [e3, List.length_map] at rl
        exact rl
      | false =>
        have q := tpAll_len (hls hm)
        rw [datL_map, List.length_map, List.length_map] at q
        rw [q]
        exact rl
    -- apart from the top's own list
    have ndc : c.l ∉ b :: fl :: ownC cr ∧ c.l ≠ c.a := by
      have q : (b :: fl :: c.a :: c.l :: ownC cr).Nodup := hnd
      simp only [List.nodup_cons, List.mem_cons, not_or] at q ⊢
      obtain ⟨⟨q1, q2, q3, q4⟩, ⟨q5, q6, q7⟩, ⟨q8, q9⟩, q10, q11⟩ := q
      exact ⟨⟨Ne.symm q3, Ne.symm q6, q10⟩, Ne.symm q8⟩
    obtain ⟨ndl, ndla⟩ := ndc
    simp only [List.mem_cons, not_or] at ndl
    obtain ⟨nlb, nlf, nlr⟩ := ndl
    have e : st.putv t = ⟨⟨c.f.m, c.f.k, c.f.ins ++ [(if c.f.m then c.f.k.getD [] else [], t)]⟩ :: cr.map (·.f), st.val⟩ := by
      unfold Bs.putv
      rw [hst]
    rw [e] at h
    have fin : ∀ (H' : Hp) (vs' : List V), FrAt K H' c.a c.l (kindOf_ c.f.m) key vs' → Bt c.l H H' → (c.f.m = true → ∃ es : List (Ent × Vl), vs' = es.map (fun e => V.ref e.1.t) ∧ (∀ e ∈ es, EdAt H' e) ∧ c.f.ins ++ [(if c.f.m then c.f.k.getD [] else [], t)] = es.map pr) → (c.f.m = false → TpAll H' vs' (datL ((c.f.ins ++ [(if c.f.m then c.f.k.getD [] else [], t)]).map (·.2)))) → Q .non H' := fun H' vs' g1 g2 g3 g4 => by
      have tk : Tk H H' := Bt.tk hcl g2
      refine h (⟨c.a, c.l, ⟨c.f.m, c.f.k, c.f.ins ++ [(if c.f.m then c.f.k.getD [] else [], t)]⟩⟩ :: cr) H' ⟨⟨dx, bv, g2 _ _ (Ne.symm nlb) hb, hbv.tk tk⟩, ?_, rfl, fun x hx => ?_, hnd⟩ rfl (fun x u n hx => g2 x u (fun z => n ?_) hx) tk
      · rw [rev_map_cons]
        exact g2 _ _ (Ne.symm nlf) hli
      · rcases List.mem_cons.mp hx with q | q
        · subst q
          refine ⟨key, vs', g1, fun k ek => ?_, g3, g4⟩
          obtain ⟨q, e1, e2⟩ := hk k ek
          exact ⟨q, e1, tk _ _ e2⟩
        · obtain ⟨m1, m2⟩ := ownC_mem q
          exact (hat x (List.mem_cons_of_mem _ q)).keep (fun u => g2 _ u fun z => nlr (z ▸ m1)) (fun u => g2 _ u fun z => nlr (z ▸ m2)) tk
      · rw [z]
        show c.l ∈ own b fl (c :: cr)
        exact List.mem_cons_of_mem _ (List.mem_cons_of_mem _ (ownC_mem (List.mem_cons_self ..)).2)
    refine r_mget hca no_Frame_put ?_
    walk_at "rd"
    refine ⟨_, _, rfl, c.a, c.l, kindOf_ c.f.m, key, vs, rfl, hF, by omega, fun hkm T H' nT gT g1 g2 => ?_, fun hkm H' g1 g2 => ?_⟩
    · have hm := (kind_map c.f.m).mp hkm
      obtain ⟨es, e1, e2, e3⟩ := hmp hm
      obtain ⟨kk, ek⟩ := rk hm
      obtain ⟨q, rfl, hq⟩ := hk kk ek
      obtain ⟨u, rfl⟩ := vl_ref tp
      have tk : Tk H H' := Bt.tk hcl g2
      refine fin H' _ g1 g2 (fun _ => ⟨es ++ [(⟨T, q, u, kk⟩, t)], ?_, fun x hx => ?_, ?_⟩) (fun z => absurd (hm.symm.trans z) (by decide))
      · rw [e1, List.map_append]
        rfl
      · rcases List.mem_append.mp hx with p | p
        · exact (e2 x p).tk tk
        · have e5 : x = (⟨T, q, u, kk⟩, t) := by simpa using p
          subst e5
          exact ⟨⟨gT, tk _ _ hq⟩, Tp.tk tk _ _ tp⟩
      · rw [e3, List.map_append, hm, ek]
        rfl
    · have hm : c.f.m = false := by
        cases hm : c.f.m with
        | true => exact absurd ((kind_map c.f.m).mpr hm) hkm
        | false => rfl
      have tk : Tk H H' := Bt.tk hcl g2
      refine fin H' _ g1 g2 (fun z => absurd (hm.symm.trans z) (by decide)) fun _ => ?_
      rw [List.map_append, datL_app]
      exact tpAll_app (TpAll.tk tk _ _ (hls hm)) (.cons (Tp.tk tk _ _ tp) .nil)
end

theorem mem_own {b fl : Addr} {cs : List Cf} {x : Addr} : x ∈ own b fl cs ↔ x = b ∨ x = fl ∨ x ∈ ownC cs := by
  unfold own
  rw [List.mem_cons, List.mem_cons]
theorem mem_ownC {c : Cf} {cr : List Cf} {x : Addr} : x ∈ ownC (c :: cr) ↔ x = c.a ∨ x = c.l ∨ x ∈ ownC cr := by
  show x ∈ c.a :: c.l :: ownC cr ↔ _
  rw [List.mem_cons, List.mem_cons]
theorem tp_ev1 {H : Hp} {v : V} {k : Str} {d : PyData} (h : Tp H v (.tuple [.str k, d])) : ∃ T u, v = .ref T ∧ H T = some (.tup [.str k, u]) ∧ Tp H u d := by
  obtain ⟨T, vs, rfl, h1, h2⟩ := tp_tup h
  cases h2 with
  | cons x1 x2 =>
    cases x1
    cases x2 with
    | cons y1 y2 =>
      cases y2
      exact ⟨T, _, rfl, h1, y1⟩
theorem FmAt.live {K : Frg} {H : Hp} {c : Cf} (h : FmAt K H c) : (∃ u, H c.a = some u) ∧ ∃ u, H c.l = some u := by
  obtain ⟨key, vs, ⟨dx, h1, h2⟩, _⟩ := h
  exact ⟨⟨_, h1⟩, _, h2⟩
theorem BAt.live {K : Frg} {H : Hp} {b fl : Addr} {st : Bs} {cs : List Cf} (B : BAt K H b fl st cs) : ∀ x ∈ own b fl cs, ∃ u, H x = some u := by
  intro x hx
  obtain ⟨⟨dx, v, h1, h2⟩, h3, h4, h5, h6⟩ := B
  rcases mem_own.mp hx with e | e | e
  · rw [e]
    exact ⟨_, h1⟩
  · rw [e]
    exact ⟨_, h3⟩
  · obtain ⟨c, hc, q⟩ := List.mem_flatMap.mp e
    obtain ⟨l1, l2⟩ := (h5 c hc).live
    rcases List.mem_cons.mp q with q | q
    · rw [q]
      exact l1
    · have q : x = c.l := by simpa using q
      rw [q]
      exact l2
section
variable {P : Program} {w : World} {K : PySem.W.Frag} {mg : Str → Option Value} {base : Heap} {f : Addr} {fd : FuncData}
theorem ok_Builder_take (F : FunD K "take" "Builder.take" (defArgs s_Builder_take) (defBody s_Builder_take) (defScope s_Builder_take) [] [] (meAd "Builder" "take" K) fd) (nb : Nm K mg) (k_Frame : Mak P w K mg base 1 "Frame" (C_Frame K) (sp_Frame___init__ K) []) (m_Frame_built : Met P w K mg base 2 (C_Frame K) "built" (sp_Frame_built K) []) (m_Builder__put : Met P w K mg base 2 (C_Builder K) "_put" (sp_Builder__put K) []) : Met P w K mg base 3 (C_Builder K) "take" (sp_Builder_take K) [] := by
  refine metD F nb.cl_Builder nb.me_Builder_take sc_Builder_take (fun _ _ _ _ _ _ us hl => match us, hl with | [_, _], _ => rfl) len2 (fun cdv A outer s H vs Q E hr h => ⟨_, (pss_one (ps_if (pt_cmpR op_eq (pe_ix ix_tup (pv 1) pe_int (fun _ _ => rfl)) pe_str (nomark _))
    (pss_one (ps_expr (pe_bm PySem.F.plainAttrs_list PySem.F.slot_list_append PySem.F.type_list_append mt_append (pe_fld (pv 0) rfl) (pa_cons (pe_mk k_Frame hr (by decide) rfl (pa_cons (pe_ix ix_tup (pv 1) pe_int (fun _ _ => rfl)) pa_nil)) pa_nil))))
    (pss_one (ps_if (pt_cmpR op_eq (pe_ix ix_tup (pv 1) pe_int (fun _ _ => rfl)) pe_str (nomark _))
    (pss_cons (ps_set (i := 2) sc_Builder_take.nd rfl (Or.inl rfl) (pe_ix ix_list (pe_fld (pv 0) rfl) (pe_un un_neg pe_int) (fun _ _ => rfl)))
    (pss_one (ps_fld (pv 2) (pe_ix ix_tup (pv 1) pe_int (fun _ _ => rfl)) rfl)))
    (pss_one (ps_if (pt_cmpR op_eq (pe_ix ix_tup (pv 1) pe_int (fun _ _ => rfl)) pe_str (nomark _))
    (pss_one (ps_expr (pe_mt m_Builder__put hr (by decide) (pv 0) (pa_cons (pe_ix ix_tup (pv 1) pe_int (fun _ _ => rfl)) pa_nil))))
    (pss_cons (ps_set (i := 2) sc_Builder_take.nd rfl (Or.inl rfl) (pe_bm0 PySem.F.plainAttrs_list PySem.F.slot_list_pop PySem.F.type_list_pop mt_pop (pe_fld (pv 0) rfl)))
    (pss_one (ps_expr (pe_mt m_Builder__put hr (by decide) (pv 0) (pa_cons (pe_mt0 m_Frame_built hr (by decide) (pv 2)) pa_nil))))))))))), ?_⟩)
  obtain ⟨_, v, rfl, b, fl, st, cs, ev, rfl, B, tp, val, hval, h⟩ := h
  obtain ⟨⟨dx, bv, hb, hbv⟩, hli, hfs, hat, hnd⟩ := id B
  have bfl : b ≠ fl := fun e => by
    have q : (b :: fl :: ownC cs).Nodup := hnd
    rw [List.nodup_cons] at q
    exact q.1 (by rw [e]; exact List.mem_cons_self ..)
  have flo : fl ∉ ownC cs := by
    have q : (b :: fl :: ownC cs).Nodup := hnd
    rw [List.nodup_cons, List.nodup_cons] at q
    exact q.2.1
  have bo : b ∉ ownC cs := by
    have q : (b :: fl :: ownC cs).Nodup := hnd
    rw [List.nodup_cons] at q
    exact fun z => q.1 (List.mem_cons_of_mem _ z)
  cases ev with
  | op m =>
    obtain ⟨T, u, rfl, hT, hu⟩ := tp_ev1 (show Tp H v (.tuple [.str "open", .str (kindOf_ m)]) from tp)
    obtain rfl : u = .str (kindOf_ m) := by
      cases hu
      rfl
    have val : st.fs.length ≤ 900 := val
    walk_at "rd"
    refine r_ixT (SqT.of hT) at0 ?_
    walk_at "rd"
    refine r_itep rfl ?_
    walk_at "rd"
    refine r_fget hb nb.cl_Builder nb.na_Builder__frames lk_Builder__frames ?_
    refine ⟨tyL hli, ?_⟩
    walk_at "rd"
    refine r_ixT (SqT.of hT) rfl ?_
    walk_at "rd"
    refine d_frame fun a l H1 na nl la hF s1 => ?_
    have hli1 := s1 _ _ hli
    walk_at "rd"
    have hl0 : (cs.reverse.map fun c => V.ref c.a).length ≤ 900 := by
      rw [List.length_map, List.length_reverse]
      have q := congrArg List.length hfs
      rw [List.length_map] at q
      omega
    refine r_appK hli1 (small1000 (by omega)) fun H2 hL2 f2 => ?_
    have naf : a ≠ fl := fun e => by rw [e, hli] at na; cases na
    have nlf : l ≠ fl := fun e => by rw [e, hli] at nl; cases nl
    have tk : Tk H H2 := fun x ys hx => by
      have n : x ≠ fl := fun e => by rw [e, hli] at hx; cases hx
      rw [f2 x n]
      exact s1 _ _ hx
    obtain ⟨dxf, hFa, hFl⟩ := hF
    have lv := B.live
    have nao : a ∉ own b fl cs := fun z => by
      obtain ⟨u, q⟩ := lv a z
      rw [na] at q
      cases q
    have nlo : l ∉ own b fl cs := fun z => by
      obtain ⟨u, q⟩ := lv l z
      rw [nl] at q
      cases q
    refine h (⟨a, l, ⟨m, none, []⟩⟩ :: cs) H2 ⟨⟨dx, bv, by rw [f2 b bfl]; exact s1 _ _ hb, hbv.tk tk⟩, ?_, ?_, fun c hc => ?_, ?_⟩ (fun x hx => ?_) (fun x u n hx => ?_) tk
    · rw [hL2, rev_map_cons]
    · rw [List.map_cons, hfs]
      rfl
    · rcases List.mem_cons.mp hc with q | q
      · subst q
        refine ⟨.non, [], ⟨dxf, by rw [f2 a naf]; exact hFa, by rw [f2 l nlf]; exact hFl⟩, fun k e => (by cases e), fun _ => ⟨[], rfl, fun _ h => absurd h (by simp), rfl⟩, fun _ => .nil⟩
      · obtain ⟨m1, m2⟩ := ownC_mem q
        exact (hat c q).keep (fun u z => by rw [f2 _ (fun e => flo (e ▸ m1))]; exact s1 _ _ z) (fun u z => by rw [f2 _ (fun e => flo (e ▸ m2))]; exact s1 _ _ z) tk
    · show (b :: fl :: a :: l :: ownC cs).Nodup
      have q : (b :: fl :: ownC cs).Nodup := hnd
      simp only [own, List.mem_cons, not_or] at nao nlo
      simp only [List.nodup_cons, List.mem_cons, not_or] at q ⊢
      exact ⟨⟨bfl, Ne.symm nao.1, Ne.symm nlo.1, bo⟩, ⟨Ne.symm nao.2.1, Ne.symm nlo.2.1, flo⟩, ⟨Ne.symm la, nao.2.2⟩, nlo.2.2, q.2.2⟩
    · rcases mem_own.mp hx with q | q | q
      · exact .inl (mem_own.mpr (.inl q))
      · exact .inl (mem_own.mpr (.inr (.inl q)))
      · rcases mem_ownC.mp q with q | q | q
        · exact .inr (by rw [q]; exact na)
        · exact .inr (by rw [q]; exact nl)
        · exact .inl (mem_own.mpr (.inr (.inr q)))
    · have n1 : x ≠ fl := fun e => n (mem_own.mpr (.inr (.inl e)))
      rw [f2 x n1]
      exact s1 _ _ hx
  | ky k =>
    obtain ⟨T, u, rfl, hT, hu⟩ := tp_ev1 (show Tp H v (.tuple [.str "key", kd k]) from tp)
    obtain ⟨q, rfl, hq⟩ := tp_kdB hu
    obtain ⟨pf, r, hst⟩ := val
    rw [hst] at hfs
    obtain ⟨c, cr, rfl, rfl, rfl⟩ := cs_cons hfs
    rw [rev_map_cons] at hli
    walk_at "rd"
    refine r_ixT (SqT.of hT) at0 ?_
    walk_at "rd"
    refine r_iteN (by decide +kernel) ?_
    walk_at "rd"
    refine r_ixT (SqT.of hT) at0 ?_
    walk_at "rd"
    refine r_itep rfl ?_
    walk_at "rd"
    refine r_fget hb nb.cl_Builder nb.na_Builder__frames lk_Builder__frames ?_
    walk_at "rd"
    refine r_ixL (SqL.of hli) (atI_last _ _) ?_
    walk_at "rd"
    refine r_ixT (SqT.of hT) rfl ?_
    walk_at "rd"
    obtain ⟨key, vs, ⟨dxc, hca, hcl⟩, hk, hmp, hls⟩ := hat c (List.mem_cons_self ..)
    refine r_fsetK hca nb.cl_Frame nb.na_Frame_key (few_Frame) pt_Frame_key fun H1 hA1 f1 => ?_
    have tk : Tk H H1 := fun x ys hx => by
      have n : x ≠ c.a := fun e => by rw [e, hca] at hx; cases hx
      rw [f1 x n]
      exact hx
    have nd2 : c.a ≠ b ∧ c.a ≠ fl ∧ c.a ≠ c.l ∧ c.a ∉ ownC cr := by
      have q : (b :: fl :: c.a :: c.l :: ownC cr).Nodup := hnd
      simp only [List.nodup_cons, List.mem_cons, not_or] at q
      obtain ⟨⟨q1, q2, q3, q4⟩, ⟨q5, q6, q7⟩, ⟨q8, q9⟩, q10, q11⟩ := q
      exact ⟨Ne.symm q2, Ne.symm q5, q8, q9⟩
    obtain ⟨nab, naf, nal, nar⟩ := nd2
    have e : st.step (.ky k) = ⟨⟨c.f.m, some k, c.f.ins⟩ :: cr.map (·.f), st.val⟩ := by
      show (match st.fs with | [] => st | f :: r => ⟨⟨f.m, some k, f.ins⟩ :: r, st.val⟩) = _
      rw [hst]
    rw [e] at h
    refine h (⟨c.a, c.l, ⟨c.f.m, some k, c.f.ins⟩⟩ :: cr) H1 ⟨⟨dx, bv, by rw [f1 b (Ne.symm nab)]; exact hb, hbv.tk tk⟩, ?_, rfl, fun x hx => ?_, hnd⟩ (fun x hx => .inl hx) (fun x u n hx => ?_) tk
    · rw [rev_map_cons, f1 fl (Ne.symm naf)]
      exact hli
    · rcases List.mem_cons.mp hx with p | p
      · subst p
        refine ⟨.ref q, vs, ⟨dxc, hA1, by rw [f1 c.l (Ne.symm nal)]; exact hcl⟩, fun k' e => ?_, fun e => ?_, fun e => TpAll.tk tk _ _ (hls e)⟩
        · have e : some k = some k' := e
          cases e
          exact ⟨q, rfl, tk _ _ hq⟩
        · obtain ⟨es, e1, e2, e3⟩ := hmp e
          exact ⟨es, e1, fun y hy => (e2 y hy).tk tk, e3⟩
      · obtain ⟨m1, m2⟩ := ownC_mem p
        exact (hat x (List.mem_cons_of_mem _ p)).keep (fun u z => by rw [f1 _ (fun e => nar (e ▸ m1))]; exact z) (fun u z => by rw [f1 _ (fun e => nar (e ▸ m2))]; exact z) tk
    · have n1 : x ≠ c.a := fun e => n (mem_own.mpr (.inr (.inr (mem_ownC.mpr (.inl e)))))
      rw [f1 x n1]
      exact hx
  | lf k r =>
    obtain ⟨T, u, rfl, hT, hu⟩ := tp_ev1 (show Tp H v (.tuple [.str "leaf", .tuple (.str k :: r)]) from tp)
    walk_at "rd"
    refine r_ixT (SqT.of hT) at0 ?_
    walk_at "rd"
    refine r_iteN (by decide +kernel) ?_
    walk_at "rd"
    refine r_ixT (SqT.of hT) at0 ?_
    walk_at "rd"
    refine r_iteN (by decide +kernel) ?_
    walk_at "rd"
    refine r_ixT (SqT.of hT) at0 ?_
    walk_at "rd"
    refine r_itep rfl ?_
    walk_at "rd"
    refine r_mget hb no_Builder__put ?_
    walk_at "rd"
    refine r_ixT (SqT.of hT) rfl ?_
    refine ⟨_, _, rfl, b, fl, st, cs, .lf k r, rfl, B, hu, val, hval, fun cs' H' B' eo w tk => ?_⟩
    exact h cs' H' B' (fun x hx => .inl (by rw [← eo]; exact hx)) w tk
  | cl =>
    obtain ⟨T, ws, rfl, hT, hw⟩ := tp_tup (show Tp H v (.tuple [.str "close"]) from tp)
    have hT : H T = some (.tup [.str "close"]) := by
      cases hw with
      | cons x1 x2 =>
        cases x1
        cases x2
        exact hT
    obtain ⟨pf, r, hst, hnk, hil, rdy⟩ := val
    rw [hst] at hfs
    obtain ⟨c, cr, rfl, rfl, rfl⟩ := cs_cons hfs
    rw [rev_map_cons] at hli
    walk_at "rd"
    refine r_ixT (SqT.of hT) at0 ?_
    walk_at "rd"
    refine r_iteN (by decide +kernel) ?_
    walk_at "rd"
    refine r_ixT (SqT.of hT) at0 ?_
    walk_at "rd"
    refine r_iteN (by decide +kernel) ?_
    walk_at "rd"
    refine r_ixT (SqT.of hT) at0 ?_
    walk_at "rd"
    refine r_iteN (by decide +kernel) ?_
    walk_at "rd"
    refine r_fget hb nb.cl_Builder nb.na_Builder__frames lk_Builder__frames ?_
    refine ⟨tyL hli, ?_⟩
    refine ⟨fl, _, .ref c.a, rfl, rfl, hli, by simp, ?_⟩
    rw [List.dropLast_concat]
    have tk1 : Tk H (upd H fl (.lst (cr.reverse.map fun c => V.ref c.a))) := tk_put hli
    have f1 : ∀ x, x ≠ fl → upd H fl (.lst (cr.reverse.map fun c => V.ref c.a)) x = H x := fun x n => upd_ne n
    have hl1 : upd H fl (.lst (cr.reverse.map fun c => V.ref c.a)) fl = some (.lst (cr.reverse.map fun c => V.ref c.a)) := upd_same
    generalize upd H fl (.lst (cr.reverse.map fun c => V.ref c.a)) = H1 at tk1 f1 hl1 ⊢
    have flo' : fl ∉ ownC cr ∧ fl ≠ c.a ∧ fl ≠ c.l := by
      refine ⟨fun z => flo (mem_ownC.mpr (.inr (.inr z))), fun z => flo (mem_ownC.mpr (.inl z)), fun z => flo (mem_ownC.mpr (.inr (.inl z)))⟩
    obtain ⟨fl1, fl2, fl3⟩ := flo'
    have B1 : BAt K H1 b fl ⟨cr.map (·.f), st.val⟩ cr := by
      refine ⟨⟨dx, bv, by rw [f1 b bfl]; exact hb, hbv.tk tk1⟩, hl1, rfl, fun x hx => ?_, ?_⟩
      · obtain ⟨m1, m2⟩ := ownC_mem hx
        exact (hat x (List.mem_cons_of_mem _ hx)).keep (fun u z => by rw [f1 _ (fun e => fl1 (e ▸ m1))]; exact z) (fun u z => by rw [f1 _ (fun e => fl1 (e ▸ m2))]; exact z) tk1
      · have q : (b :: fl :: c.a :: c.l :: ownC cr).Nodup := hnd
        show (b :: fl :: ownC cr).Nodup
        simp only [List.nodup_cons, List.mem_cons, not_or] at q ⊢
        obtain ⟨⟨q1, q2, q3, q4⟩, ⟨q5, q6, q7⟩, ⟨q8, q9⟩, q10, q11⟩ := q
        exact ⟨⟨q1, q4⟩, q7, q11⟩
    have hFc := (hat c (List.mem_cons_self ..)).keep (fun u z => by rw [f1 _ (Ne.symm fl2)]; exact z) (fun u z => by rw [f1 _ (Ne.symm fl3)]; exact z) tk1
    obtain ⟨key, vs, hF, hk, hmp, hls⟩ := hFc
    obtain ⟨dxc, hca, hcl⟩ := id hF
    have e : st.step .cl = (Bs.mk (cr.map (·.f)) st.val).putv c.f.built := by
      show (match st.fs with | [] => st | f :: r => (Bs.mk r st.val).putv f.built) = _
      rw [hst]
    rw [e] at h
    walk_at "rd"
    obtain ⟨dx1, bv1, hb1, _⟩ := B1.bu
    refine r_mget hb1 no_Builder__put ?_
    walk_at "rd"
    refine r_mget hca no_Frame_built ?_
    have ow1 : Ow (own b fl (c :: cr)) H H1 := fun x u n hx => by
      rw [f1 x (fun z => n (mem_own.mpr (.inr (.inl z))))]
      exact hx
    refine ⟨_, rfl, c.a, c.l, kindOf_ c.f.m, key, vs, rfl, hF, fun hkm => ?_, fun hkm => ?_⟩
    · have hm := (kind_map c.f.m).mp hkm
      obtain ⟨es, e1, e2, e3⟩ := hmp hm
      have nk := hnk hm
      rw [e3, List.map_map] at nk
      refine ⟨es, e1, e2, nk, by rw [e3, List.length_map] at hil; omega, fun u zs H2 pz sz tu s2 => ?_⟩
      have ez : zs = sortM c.f.ins := by
        rw [e3]
        exact sortM_uniq pz sz
      have eb : c.f.built = .mp zs := by
        unfold Pf.built
        rw [if_pos hm, ez]
      walk_at "rd"
      refine ⟨_, _, rfl, b, fl, _, cr, .mp zs, rfl, B1.same s2, tu, rdy, hval, fun cs' H3 B3 eo w3 tk3 => ?_⟩
      rw [eb] at h
      walk_at "rd"
      refine h cs' H3 B3 (fun x hx => .inl (sub_own x (by rw [← eo]; exact hx))) ?_ ((tk1.trans (Same.tk s2)).trans tk3)
      exact (ow1.trans (Ow.of s2)).trans fun x u n hx => w3 x u (fun z => n (sub_own x z)) hx
    · have hm : c.f.m = false := by
        cases hm : c.f.m with
        | true => exact absurd ((kind_map c.f.m).mpr hm) hkm
        | false => rfl
      refine ⟨c.f.ins.map (·.2), hls hm, fun u H2 tu s2 => ?_⟩
      have eb : c.f.built = .ls (c.f.ins.map (·.2)) := by
        unfold Pf.built
        rw [if_neg (by rw [hm]; decide)]
      walk_at "rd"
      refine ⟨_, _, rfl, b, fl, _, cr, .ls (c.f.ins.map (·.2)), rfl, B1.same s2, tu, rdy, hval, fun cs' H3 B3 eo w3 tk3 => ?_⟩
      rw [eb] at h
      walk_at "rd"
      refine h cs' H3 B3 (fun x hx => .inl (sub_own x (by rw [← eo]; exact hx))) ?_ ((tk1.trans (Same.tk s2)).trans tk3)
      exact (ow1.trans (Ow.of s2)).trans fun x u n hx => w3 x u (fun z => n (sub_own x z)) hx
end

/-! ### a value's events build it -/
def Bs.okRun : Bs → List Ev → Prop
  | _, [] => True
  | st, e :: r => st.valid e ∧ st.val = none ∧ (st.step e).okRun r
def Bs.run (st : Bs) (es : List Ev) : Bs := es.foldl Bs.step st
def lastK (k : Option (List Int)) (es : List (List Int × Vl)) : Option (List Int) := es.foldl (fun _ e => some e.1) k
mutual
theorem evs_run : ∀ (n : Nat) (t : Vl), t.ok n → ∀ (st : Bs) (rest : List Ev), st.fs.length + n ≤ 900 → st.ready → st.val = none → (st.putv t).okRun rest → st.okRun (t.evs ++ rest) ∧ st.run (t.evs ++ rest) = (st.putv t).run rest
  | n, .lf k r, h, st, rest, hd, rdy, hv, hr => ⟨⟨rdy, hv, hr⟩, rfl⟩
  | 0, .ls xs, h, _, _, _, _, _, _ => h.elim
  | n + 1, .ls xs, h, st, rest, hd, rdy, hv, hr => by
    have e : (Vl.ls xs).evs ++ rest = .op false :: (evsL xs ++ (.cl :: rest)) := by
      show (Ev.op false :: (evsL xs ++ [Ev.cl])) ++ rest = _
      rw [List.cons_append, List.append_assoc]
      rfl
    rw [e]
    have hxl : xs.length ≤ 49 := h.1
    have cl2 : (Bs.mk (⟨false, none, [] ++ xs.map fun x => (([] : List Int), x)⟩ :: st.fs) st.val).okRun (.cl :: rest) ∧ (Bs.mk (⟨false, none, [] ++ xs.map fun x => (([] : List Int), x)⟩ :: st.fs) st.val).run (.cl :: rest) = (st.putv (.ls xs)).run rest := by
      have e2 : (Bs.mk (⟨false, none, [] ++ xs.map fun x => (([] : List Int), x)⟩ :: st.fs) st.val).step .cl = st.putv (.ls xs) := by
        show (Bs.mk st.fs st.val).putv (.ls ((([] : List (List Int × Vl)) ++ xs.map fun x => (([] : List Int), x)).map fun y : List Int × Vl => y.2)) = _
        rw [List.nil_append, List.map_map]
        have e3 : xs.map ((fun x : List Int × Vl => x.2) ∘ fun x : Vl => (([] : List Int), x)) = xs := by
          rw [show ((fun x : List Int × Vl => x.2) ∘ fun x : Vl => (([] : List Int), x)) = id from rfl, List.map_id]
        rw [e3]
      refine ⟨⟨⟨_, _, rfl, fun q => (by cases q), ?_, rdy⟩, hv, by rw [e2]; exact hr⟩, ?_⟩
      · show ([] ++ xs.map fun x => (([] : List Int), x)).length ≤ 900
        rw [List.nil_append, List.length_map]
        omega
      · show ((Bs.mk (⟨false, none, [] ++ xs.map fun x => (([] : List Int), x)⟩ :: st.fs) st.val).step .cl).run rest = _
        rw [e2]
    obtain ⟨q1, q2⟩ := evsL_run n xs h.2 ⟨false, none, []⟩ st.fs st.val (.cl :: rest) rfl (by omega) (by show 0 + _ ≤ 900; omega) hv cl2.1
    refine ⟨⟨by show st.fs.length ≤ 900; omega, hv, q1⟩, ?_⟩
    show (Bs.mk (⟨false, none, []⟩ :: st.fs) st.val).run _ = _
    rw [q2, cl2.2]
  | 0, .mp es, h, _, _, _, _, _, _ => h.elim
  | n + 1, .mp es, h, st, rest, hd, rdy, hv, hr => by
    have e : (Vl.mp es).evs ++ rest = .op true :: (evsM es ++ (.cl :: rest)) := by
      show (Ev.op true :: (evsM es ++ [Ev.cl])) ++ rest = _
      rw [List.cons_append, List.append_assoc]
      rfl
    rw [e]
    have hxl : es.length ≤ 49 := h.1
    have cl2 : (Bs.mk (⟨true, lastK none es, [] ++ es⟩ :: st.fs) st.val).okRun (.cl :: rest) ∧ (Bs.mk (⟨true, lastK none es, [] ++ es⟩ :: st.fs) st.val).run (.cl :: rest) = (st.putv (.mp es)).run rest := by
      have e2 : (Bs.mk (⟨true, lastK none es, [] ++ es⟩ :: st.fs) st.val).step .cl = st.putv (.mp es) := by
        show (Bs.mk st.fs st.val).putv (.mp (sortM ([] ++ es))) = _
        rw [List.nil_append, sortM_id h.2.1]
      refine ⟨⟨⟨_, _, rfl, fun _ => strict_nodup h.2.1, ?_, rdy⟩, hv, by rw [e2]; exact hr⟩, ?_⟩
      · show ([] ++ es).length ≤ 900
        rw [List.nil_append]
        omega
      · show ((Bs.mk (⟨true, lastK none es, [] ++ es⟩ :: st.fs) st.val).step .cl).run rest = _
        rw [e2]
    obtain ⟨q1, q2⟩ := evsM_run n es h.2.2.2 none [] st.fs st.val (.cl :: rest) (by omega) (by show 0 + _ ≤ 900; omega) hv cl2.1
    refine ⟨⟨by show st.fs.length ≤ 900; omega, hv, q1⟩, ?_⟩
    show (Bs.mk (⟨true, none, []⟩ :: st.fs) st.val).run _ = _
    rw [q2, cl2.2]
theorem evsL_run : ∀ (n : Nat) (xs : List Vl), vokL n xs → ∀ (f : Pf) (fs : List Pf) (val : Option Vl) (rest : List Ev), f.m = false → fs.length + 1 + n ≤ 900 → f.ins.length + xs.length ≤ 900 → val = none →
    (Bs.mk (⟨f.m, f.k, f.ins ++ xs.map fun x => (([] : List Int), x)⟩ :: fs) val).okRun rest → (Bs.mk (f :: fs) val).okRun (evsL xs ++ rest) ∧ (Bs.mk (f :: fs) val).run (evsL xs ++ rest) = (Bs.mk (⟨f.m, f.k, f.ins ++ xs.map fun x => (([] : List Int), x)⟩ :: fs) val).run rest
  | n, [], _, f, fs, val, rest, hm, hd, hl, hv, hr => by
    have e : f.ins ++ ([] : List Vl).map (fun x => (([] : List Int), x)) = f.ins := List.append_nil _
    rw [e] at hr ⊢
    exact ⟨hr, rfl⟩
  | n, x :: xs, h, f, fs, val, rest, hm, hd, hl, hv, hr => by
    have hl : f.ins.length + (xs.length + 1) ≤ 900 := hl
    have ep : (Bs.mk (f :: fs) val).putv x = Bs.mk (⟨f.m, f.k, f.ins ++ [(([] : List Int), x)]⟩ :: fs) val := by
      show Bs.mk (⟨f.m, f.k, f.ins ++ [(if f.m then f.k.getD [] else [], x)]⟩ :: fs) val = _
      rw [hm]
      rfl
    have e1 : f.ins ++ (x :: xs).map (fun x => (([] : List Int), x)) = (f.ins ++ [(([] : List Int), x)]) ++ xs.map fun x => (([] : List Int), x) := by
      rw [List.map_cons, List.append_assoc]
      rfl
    rw [e1] at hr ⊢
    obtain ⟨q1, q2⟩ := evsL_run n xs h.2 ⟨f.m, f.k, f.ins ++ [(([] : List Int), x)]⟩ fs val rest hm hd (by show (f.ins ++ [_]).length + _ ≤ 900; rw [List.length_append]; show _ + 1 + _ ≤ 900; omega) hv hr
    have e2 : evsL (x :: xs) ++ rest = x.evs ++ (evsL xs ++ rest) := by
      show (x.evs ++ evsL xs) ++ rest = _
      rw [List.append_assoc]
    rw [e2]
    obtain ⟨p1, p2⟩ := evs_run n x h.1 (Bs.mk (f :: fs) val) (evsL xs ++ rest) hd (fun f' r e => by
      cases e
      exact ⟨fun z => absurd (hm.symm.trans z) (by decide), by omega⟩) hv (by rw [ep]; exact q1)
    refine ⟨p1, ?_⟩
    rw [p2, ep, q2]
theorem evsM_run : ∀ (n : Nat) (es : List (List Int × Vl)), vokM n es → ∀ (k : Option (List Int)) (ins : List (List Int × Vl)) (fs : List Pf) (val : Option Vl) (rest : List Ev), fs.length + 1 + n ≤ 900 → ins.length + es.length ≤ 900 → val = none →
    (Bs.mk (⟨true, lastK k es, ins ++ es⟩ :: fs) val).okRun rest → (Bs.mk (⟨true, k, ins⟩ :: fs) val).okRun (evsM es ++ rest) ∧ (Bs.mk (⟨true, k, ins⟩ :: fs) val).run (evsM es ++ rest) = (Bs.mk (⟨true, lastK k es, ins ++ es⟩ :: fs) val).run rest
  | n, [], _, k, ins, fs, val, rest, hd, hl, hv, hr => by
    rw [List.append_nil] at hr ⊢
    exact ⟨hr, rfl⟩
  | n, (k0, x) :: es, h, k, ins, fs, val, rest, hd, hl, hv, hr => by
    have hl : ins.length + (es.length + 1) ≤ 900 := hl
    have ep : (Bs.mk (⟨true, some k0, ins⟩ :: fs) val).putv x = Bs.mk (⟨true, some k0, ins ++ [(k0, x)]⟩ :: fs) val := rfl
    have e1 : ins ++ (k0, x) :: es = (ins ++ [(k0, x)]) ++ es := by
      rw [List.append_assoc]
      rfl
    have e3 : lastK k ((k0, x) :: es) = lastK (some k0) es := rfl
    rw [e1, e3] at hr ⊢
    obtain ⟨q1, q2⟩ := evsM_run n es h.2 (some k0) (ins ++ [(k0, x)]) fs val rest hd (by rw [List.length_append]; show _ + 1 + _ ≤ 900; omega) hv hr
    have e2 : evsM ((k0, x) :: es) ++ rest = .ky k0 :: (x.evs ++ (evsM es ++ rest)) := by
      show (Ev.ky k0 :: (x.evs ++ evsM es)) ++ rest = _
      rw [List.cons_append, List.append_assoc]
    rw [e2]
    obtain ⟨p1, p2⟩ := evs_run n x h.1 (Bs.mk (⟨true, some k0, ins⟩ :: fs) val) (evsM es ++ rest) hd (fun f' r e => by
      cases e
      exact ⟨fun _ => ⟨k0, rfl⟩, by show ins.length ≤ 900; omega⟩) hv (by rw [ep]; exact q1)
    refine ⟨⟨⟨_, _, rfl⟩, hv, p1⟩, ?_⟩
    show (Bs.mk (⟨true, some k0, ins⟩ :: fs) val).run _ = _
    rw [p2, ep, q2]
end
theorem okRun_at : ∀ (es : List Ev) (st : Bs) (i : Nat) (e : Ev), st.okRun es → es[i]? = some e → (st.run (es.take i)).valid e ∧ (st.run (es.take i)).val = none
  | [], _, _, _, _, h => by simp at h
  | x :: es, st, 0, e, h, he => by
    cases (show some x = some e from he)
    exact ⟨h.1, h.2.1⟩
  | x :: es, st, i + 1, e, h, he => okRun_at es (st.step x) i e h.2.2 (by simpa using he)
theorem run_take {es : List Ev} {st : Bs} {i : Nat} {e : Ev} (h : es[i]? = some e) : st.run (es.take (i + 1)) = (st.run (es.take i)).step e := by
  unfold Bs.run
  rw [take_one h, List.foldl_append]
  rfl
theorem run_value {n : Nat} {t : Vl} (h : t.ok n) (hn : n ≤ 900) : (Bs.mk [] none).okRun t.evs ∧ (Bs.mk [] none).run t.evs = ⟨[], some t⟩ := by
  have q := evs_run n t h ⟨[], none⟩ [] (by show 0 + n ≤ 900; omega) (fun f r e => by cases e) rfl trivial
  rw [List.append_nil] at q
  exact q
theorem lay_op (m : Bool) : (Ev.op m).dat.canLay0 = true ∧ (Ev.op m).dat.depth ≤ 4 := by
  cases m <;> exact ⟨by decide +kernel, by decide +kernel⟩
theorem lay_cl : Ev.cl.dat.canLay0 = true ∧ Ev.cl.dat.depth ≤ 4 := ⟨by decide +kernel, by decide +kernel⟩
theorem lay_ky (k : List Int) : (Ev.ky k).dat.canLay0 = true ∧ (Ev.ky k).dat.depth ≤ 4 := by
  refine ⟨?_, ?_⟩
  · show (PyData.canLay0 (.str "key") && (PyData.canLay0 (kd k) && true)) = true
    rw [show PyData.canLay0 (.str "key") = true by decide +kernel, show PyData.canLay0 (kd k) = true from lay_kd k]
    rfl
  · have q := depth_kd1 k
    show max 0 (max (kd k).depth 0) + 1 ≤ 4
    omega
theorem lay_lfE {k : Str} {r : List PyData} (h : Lf k r) : (Ev.lf k r).dat.canLay0 = true ∧ (Ev.lf k r).dat.depth ≤ 4 := by
  obtain ⟨h1, h2, h3⟩ := lay_lf h
  refine ⟨?_, ?_⟩
  · show (PyData.canLay0 (.str "leaf") && ((PyData.canLay0 (.str k) && PyData.canLayAll0 r) && true)) = true
    rw [show PyData.canLay0 (.str "leaf") = true by decide +kernel, h1, h2]
    rfl
  · show max 0 (max (max 0 (PyData.depthAll r) + 1) 0) + 1 ≤ 4
    omega
def EvOk (e : Ev) : Prop := e.dat.canLay0 = true ∧ e.dat.depth ≤ 4
mutual
theorem evs_ok : ∀ (n : Nat) (t : Vl), t.ok n → ∀ e ∈ t.evs, EvOk e
  | n, .lf k r, h, e, he => by
    have e1 : e = .lf k r := by simpa using (show e ∈ [Ev.lf k r] from he)
    rw [e1]
    exact lay_lfE (show Lf k r by cases n <;> exact h)
  | 0, .ls xs, h, _, _ => h.elim
  | n + 1, .ls xs, h, e, he => by
    rcases List.mem_cons.mp (show e ∈ Ev.op false :: (evsL xs ++ [Ev.cl]) from he) with q | q
    · rw [q]
      exact lay_op false
    · rcases List.mem_append.mp q with q | q
      · exact evsL_ok n xs h.2 e q
      · have q : e = .cl := by simpa using q
        rw [q]
        exact lay_cl
  | 0, .mp es, h, _, _ => h.elim
  | n + 1, .mp es, h, e, he => by
    rcases List.mem_cons.mp (show e ∈ Ev.op true :: (evsM es ++ [Ev.cl]) from he) with q | q
    · rw [q]
      exact lay_op true
    · rcases List.mem_append.mp q with q | q
      · exact evsM_ok n es h.2.2.2 e q
      · have q : e = .cl := by simpa using q
        rw [q]
        exact lay_cl
theorem evsL_ok : ∀ (n : Nat) (xs : List Vl), vokL n xs → ∀ e ∈ evsL xs, EvOk e
  | _, [], _, e, he => absurd he (by simp [evsL])
  | n, x :: xs, h, e, he => by
    rcases List.mem_append.mp (show e ∈ x.evs ++ evsL xs from he) with q | q
    · exact evs_ok n x h.1 e q
    · exact evsL_ok n xs h.2 e q
theorem evsM_ok : ∀ (n : Nat) (xs : List (List Int × Vl)), vokM n xs → ∀ e ∈ evsM xs, EvOk e
  | _, [], _, e, he => absurd he (by simp [evsM])
  | n, (k, x) :: xs, h, e, he => by
    rcases List.mem_cons.mp (show e ∈ Ev.ky k :: (x.evs ++ evsM xs) from he) with q | q
    · rw [q]
      exact lay_ky k
    · rcases List.mem_append.mp q with q | q
      · exact evs_ok n x h.1 e q
      · exact evsM_ok n xs h.2 e q
end
theorem evD_lay : ∀ {es : List Ev}, (∀ e ∈ es, EvOk e) → PyData.canLayAll0 (evD es) = true ∧ PyData.depthAll (evD es) ≤ 4
  | [], _ => ⟨rfl, Nat.zero_le _⟩
  | e :: es, h => by
    obtain ⟨h1, h2⟩ := evD_lay (es := es) fun x hx => h x (List.mem_cons_of_mem _ hx)
    obtain ⟨g1, g2⟩ := h e (List.mem_cons_self ..)
    refine ⟨?_, ?_⟩
    · show (e.dat.canLay0 && PyData.canLayAll0 (evD es)) = true
      rw [g1, h1]
      rfl
    · show max e.dat.depth (PyData.depthAll (evD es)) ≤ 4
      omega
theorem d_builder {K : Frg} {H : Hp} {R : Addr → Hp → Prop} {E : XK} (h : ∀ b l H', H b = none → H l = none → BAt K H' b l ⟨[], none⟩ [] → Same H H' → R b H') : ∀ x dx, H x = none → H dx = none → dx ≠ x → sp_Builder___init__ K (.ref x :: ([] ++ [])) (upd (upd H dx (.own x)) x (.ins (C_Builder K) dx [])) (fun v H2 => v = .non ∧ R x H2) E := by
  intro a dx ha hd hne
  refine ⟨_, rfl, a, dx, rfl, upd_same, fun l H' hl hla hU g => ⟨rfl, ?_⟩⟩
  have hl0 : H l = none := by
    rw [upd_ne hla] at hl
    by_cases e : l = dx
    · rw [e] at hl ⊢
      exact hd
    · rw [upd_ne e] at hl
      exact hl
  refine h a l H' ha hl0 hU fun b u z => ?_
  have h1 : b ≠ a := fun e => by
    rw [e, ha] at z
    cases z
  have h2 : b ≠ dx := fun e => by
    rw [e, hd] at z
    cases z
  exact g b u h1 (by rw [upd_ne h1, upd_ne h2]; exact z)
theorem new_ {K : Frg} {S : SC} {H : Hp} {p : Addr} (L : LS K S H) (np : H p = none) (o : HO) : ∃ H', upd H p o = H' ∧ LS K S H' ∧ Same H H' ∧ H' p = some o := ⟨_, rfl, L.new np o, same_upd np o, upd_same⟩

/-! ### .. and in any order -/
def RunV (n : Nat) (t m : Vl) : Prop := ∀ (st : Bs) (rest : List Ev), st.fs.length + n ≤ 900 → st.ready → st.val = none → (st.putv t).okRun rest → st.okRun (m.evs ++ rest) ∧ st.run (m.evs ++ rest) = (st.putv t).run rest
theorem evsL_mrun {n : Nat} (IH : ∀ x m, x.ok n → Mx x m → RunV n x m) : ∀ (xs ms : List Vl), vokL n xs → MxL xs ms → ∀ (f : Pf) (fs : List Pf) (val : Option Vl) (rest : List Ev), f.m = false → fs.length + 1 + n ≤ 900 → f.ins.length + xs.length ≤ 900 → val = none →
    (Bs.mk (⟨f.m, f.k, f.ins ++ xs.map fun x => (([] : List Int), x)⟩ :: fs) val).okRun rest → (Bs.mk (f :: fs) val).okRun (evsL ms ++ rest) ∧ (Bs.mk (f :: fs) val).run (evsL ms ++ rest) = (Bs.mk (⟨f.m, f.k, f.ins ++ xs.map fun x => (([] : List Int), x)⟩ :: fs) val).run rest
  | [], [], _, _, f, fs, val, rest, hm, hd, hl, hv, hr => by
    have e : f.ins ++ ([] : List Vl).map (fun x => (([] : List Int), x)) = f.ins := List.append_nil _
    rw [e] at hr ⊢
    exact ⟨hr, rfl⟩
  | x :: xs, m :: ms, h, .cons hx hxs, f, fs, val, rest, hm, hd, hl, hv, hr => by
    have hl : f.ins.length + (xs.length + 1) ≤ 900 := hl
    have ep : (Bs.mk (f :: fs) val).putv x = Bs.mk (⟨f.m, f.k, f.ins ++ [(([] : List Int), x)]⟩ :: fs) val := by
      show Bs.mk (⟨f.m, f.k, f.ins ++ [(if f.m then f.k.getD [] else [], x)]⟩ :: fs) val = _
      rw [hm]
      rfl
    have e1 : f.ins ++ (x :: xs).map (fun x => (([] : List Int), x)) = (f.ins ++ [(([] : List Int), x)]) ++ xs.map fun x => (([] : List Int), x) := by
      rw [List.map_cons, List.append_assoc]
      rfl
    rw [e1] at hr ⊢
    obtain ⟨q1, q2⟩ := evsL_mrun IH xs ms h.2 hxs ⟨f.m, f.k, f.ins ++ [(([] : List Int), x)]⟩ fs val rest hm hd (by show (f.ins ++ [_]).length + _ ≤ 900; rw [List.length_append]; show _ + 1 + _ ≤ 900; omega) hv hr
    have e2 : evsL (m :: ms) ++ rest = m.evs ++ (evsL ms ++ rest) := by
      show (m.evs ++ evsL ms) ++ rest = _
      rw [List.append_assoc]
    rw [e2]
    obtain ⟨p1, p2⟩ := IH x m h.1 hx (Bs.mk (f :: fs) val) (evsL ms ++ rest) hd (fun f' r e => by
      cases e
      exact ⟨fun z => absurd (hm.symm.trans z) (by decide), by omega⟩) hv (by rw [ep]; exact q1)
    refine ⟨p1, ?_⟩
    rw [p2, ep, q2]
theorem evsM_mrun {n : Nat} (IH : ∀ x m, x.ok n → Mx x m → RunV n x m) : ∀ (es ms : List (List Int × Vl)), (∀ e ∈ es, e.2.ok n) → MxM es ms → ∀ (k : Option (List Int)) (ins : List (List Int × Vl)) (fs : List Pf) (val : Option Vl) (rest : List Ev), fs.length + 1 + n ≤ 900 → ins.length + es.length ≤ 900 → val = none →
    (Bs.mk (⟨true, lastK k es, ins ++ es⟩ :: fs) val).okRun rest → (Bs.mk (⟨true, k, ins⟩ :: fs) val).okRun (evsM ms ++ rest) ∧ (Bs.mk (⟨true, k, ins⟩ :: fs) val).run (evsM ms ++ rest) = (Bs.mk (⟨true, lastK k es, ins ++ es⟩ :: fs) val).run rest
  | [], [], _, _, k, ins, fs, val, rest, hd, hl, hv, hr => by
    rw [List.append_nil] at hr ⊢
    exact ⟨hr, rfl⟩
  | (k0, x) :: es, (_, m) :: ms, h, .cons hx hxs, k, ins, fs, val, rest, hd, hl, hv, hr => by
    have hl : ins.length + (es.length + 1) ≤ 900 := hl
    have ep : (Bs.mk (⟨true, some k0, ins⟩ :: fs) val).putv x = Bs.mk (⟨true, some k0, ins ++ [(k0, x)]⟩ :: fs) val := rfl
    have e1 : ins ++ (k0, x) :: es = (ins ++ [(k0, x)]) ++ es := by
      rw [List.append_assoc]
      rfl
    have e3 : lastK k ((k0, x) :: es) = lastK (some k0) es := rfl
    rw [e1, e3] at hr ⊢
    obtain ⟨q1, q2⟩ := evsM_mrun IH es ms (fun e he => h e (List.mem_cons_of_mem _ he)) hxs (some k0) (ins ++ [(k0, x)]) fs val rest hd (by rw [List.length_append]; show _ + 1 + _ ≤ 900; omega) hv hr
    have e2 : evsM ((k0, m) :: ms) ++ rest = .ky k0 :: (m.evs ++ (evsM ms ++ rest)) := by
      show (Ev.ky k0 :: (m.evs ++ evsM ms)) ++ rest = _
      rw [List.cons_append, List.append_assoc]
    rw [e2]
    obtain ⟨p1, p2⟩ := IH x m (h (k0, x) (List.mem_cons_self ..)) hx (Bs.mk (⟨true, some k0, ins⟩ :: fs) val) (evsM ms ++ rest) hd (fun f' r e => by
      cases e
      exact ⟨fun _ => ⟨k0, rfl⟩, by show ins.length ≤ 900; omega⟩) hv (by rw [ep]; exact q1)
    refine ⟨⟨⟨_, _, rfl⟩, hv, p1⟩, ?_⟩
    show (Bs.mk (⟨true, some k0, ins⟩ :: fs) val).run _ = _
    rw [p2, ep, q2]
theorem mxl_length : ∀ (xs ms : List Vl), MxL xs ms → ms.length = xs.length
  | [], [], _ => rfl
  | _ :: xs, _ :: ms, .cons _ b => congrArg (· + 1) (mxl_length xs ms b)
theorem evs_mrun : ∀ (n : Nat) (t m : Vl), t.ok n → Mx t m → RunV n t m
  | _, .lf k r, _, h, .lf _ _ => fun st rest hd rdy hv hr => ⟨⟨rdy, hv, hr⟩, rfl⟩
  | 0, .ls _, _, h, _ => h.elim
  | 0, .mp _, _, h, _ => h.elim
  | n + 1, .ls xs, _, h, .ls (ms := ms) mx => fun st rest hd rdy hv hr => by
    have e : (Vl.ls ms).evs ++ rest = .op false :: (evsL ms ++ (.cl :: rest)) := by
      show (Ev.op false :: (evsL ms ++ [Ev.cl])) ++ rest = _
      rw [List.cons_append, List.append_assoc]
      rfl
    rw [e]
    have hxl : xs.length ≤ 49 := h.1
    have cl2 : (Bs.mk (⟨false, none, [] ++ xs.map fun x => (([] : List Int), x)⟩ :: st.fs) st.val).okRun (.cl :: rest) ∧ (Bs.mk (⟨false, none, [] ++ xs.map fun x => (([] : List Int), x)⟩ :: st.fs) st.val).run (.cl :: rest) = (st.putv (.ls xs)).run rest := by
      have e2 : (Bs.mk (⟨false, none, [] ++ xs.map fun x => (([] : List Int), x)⟩ :: st.fs) st.val).step .cl = st.putv (.ls xs) := by
        show (Bs.mk st.fs st.val).putv (.ls ((([] : List (List Int × Vl)) ++ xs.map fun x => (([] : List Int), x)).map fun y : List Int × Vl => y.2)) = _
        rw [List.nil_append, List.map_map]
        have e3 : xs.map ((fun x : List Int × Vl => x.2) ∘ fun x : Vl => (([] : List Int), x)) = xs := by
          rw [show ((fun x : List Int × Vl => x.2) ∘ fun x : Vl => (([] : List Int), x)) = id from rfl, List.map_id]
        rw [e3]
      refine ⟨⟨⟨_, _, rfl, fun q => (by cases q), ?_, rdy⟩, hv, by rw [e2]; exact hr⟩, ?_⟩
      · show ([] ++ xs.map fun x => (([] : List Int), x)).length ≤ 900
        rw [List.nil_append, List.length_map]
        omega
      · show ((Bs.mk (⟨false, none, [] ++ xs.map fun x => (([] : List Int), x)⟩ :: st.fs) st.val).step .cl).run rest = _
        rw [e2]
    obtain ⟨q1, q2⟩ := evsL_mrun (fun x m => evs_mrun n x m) xs ms h.2 mx ⟨false, none, []⟩ st.fs st.val (.cl :: rest) rfl (by omega) (by show 0 + _ ≤ 900; omega) hv cl2.1
    refine ⟨⟨by show st.fs.length ≤ 900; omega, hv, q1⟩, ?_⟩
    show (Bs.mk (⟨false, none, []⟩ :: st.fs) st.val).run _ = _
    rw [q2, cl2.2]
  | n + 1, .mp es, _, h, .mp (fs := gs) (ms := ms) pm mx => fun st rest hd rdy hv hr => by
    have e : (Vl.mp ms).evs ++ rest = .op true :: (evsM ms ++ (.cl :: rest)) := by
      show (Ev.op true :: (evsM ms ++ [Ev.cl])) ++ rest = _
      rw [List.cons_append, List.append_assoc]
      rfl
    rw [e]
    have hxl : gs.length ≤ 49 := by
      rw [pm.length_eq]
      exact h.1
    have hso : sortM ([] ++ gs) = es := (sortM_uniq pm.symm h.2.1).symm
    have cl2 : (Bs.mk (⟨true, lastK none gs, [] ++ gs⟩ :: st.fs) st.val).okRun (.cl :: rest) ∧ (Bs.mk (⟨true, lastK none gs, [] ++ gs⟩ :: st.fs) st.val).run (.cl :: rest) = (st.putv (.mp es)).run rest := by
      have e2 : (Bs.mk (⟨true, lastK none gs, [] ++ gs⟩ :: st.fs) st.val).step .cl = st.putv (.mp es) := by
        show (Bs.mk st.fs st.val).putv (.mp (sortM ([] ++ gs))) = _
        rw [hso]
      refine ⟨⟨⟨_, _, rfl, fun _ => ((pm.map (·.1)).nodup_iff).mpr (strict_nodup h.2.1), ?_, rdy⟩, hv, by rw [e2]; exact hr⟩, ?_⟩
      · show ([] ++ gs).length ≤ 900
        rw [List.nil_append]
        omega
      · show ((Bs.mk (⟨true, lastK none gs, [] ++ gs⟩ :: st.fs) st.val).step .cl).run rest = _
        rw [e2]
    obtain ⟨q1, q2⟩ := evsM_mrun (fun x m => evs_mrun n x m) gs ms (fun e he => vokM_mem h.2.2.2 e (pm.mem_iff.mp he)) mx none [] st.fs st.val (.cl :: rest) (by omega) (by show 0 + _ ≤ 900; omega) hv cl2.1
    refine ⟨⟨by show st.fs.length ≤ 900; omega, hv, q1⟩, ?_⟩
    show (Bs.mk (⟨true, none, []⟩ :: st.fs) st.val).run _ = _
    rw [q2, cl2.2]
theorem run_mixed {n : Nat} {t m : Vl} (h : t.ok n) (q : Mx t m) (hn : n ≤ 900) : (Bs.mk [] none).okRun m.evs ∧ (Bs.mk [] none).run m.evs = ⟨[], some t⟩ := by
  have q := evs_mrun n t m h q ⟨[], none⟩ [] (by show 0 + n ≤ 900; omega) (fun f r e => by cases e) rfl trivial
  rw [List.append_nil] at q
  exact q

abbrev s_law : Stmt := (top 22)
theorem sc_law : FnScope ["script", "state", "value", "other", "events", "others", "first", "second", "k"] ["script"] (defScope s_law) := ⟨rfl, rfl, rfl, by decide +kernel, rfl, by decide +kernel, by decide +kernel⟩
theorem two_step {K : Frg} {H H' H0 : Hp} {b fl c gl : Addr} {st st1 st' : Bs} {cs cs1 gs : List Cf} (C : BAt K H c gl st' gs) (o : ∀ x ∈ own b fl cs1, x ∈ own b fl cs ∨ H x = none) (w : Ow (own b fl cs) H H') (tk : Tk H H')
    (dj : ∀ x ∈ own b fl cs, x ∉ own c gl gs) (f1 : ∀ x ∈ own b fl cs, H0 x = none) (s0 : Same H0 H) : BAt K H' c gl st' gs ∧ (∀ x ∈ own b fl cs1, x ∉ own c gl gs) ∧ (∀ x ∈ own b fl cs1, H0 x = none) ∧ Same H0 H' := by
  refine ⟨C.away w tk fun x hx hb => dj x hb hx, fun x hx hc => ?_, fun x hx => ?_, fun x u hx => w x u (fun z => ?_) (s0 _ _ hx)⟩
  · rcases o x hx with q | q
    · exact dj x q hc
    · obtain ⟨u, z⟩ := C.live x hc
      rw [q] at z
      cases z
  · rcases o x hx with q | q
    · exact f1 x q
    · cases e : H0 x with
      | none => rfl
      | some u =>
        rw [s0 _ _ e] at q
        cases q
  · rw [f1 x z] at hx
    cases hx
theorem ev_at {H : Hp} {ds : List V} {es : List Ev} {i : Nat} (h : TpAll H ds (evD es)) (hi : i < es.length) : ∃ v, ds[i]? = some v ∧ Tp H v (es[i]).dat := by
  have hl : ds.length = es.length := by rw [tpAll_len h, evD_len]
  have eg : ds[i]? = some ds[i] := List.getElem?_eq_getElem (by omega)
  obtain ⟨d, hd1, hd2⟩ := tpAll_get h eg
  have q : (evD es)[i]? = some (es[i]).dat := by
    show (es.map Ev.dat)[i]? = _
    rw [List.getElem?_map, List.getElem?_eq_getElem hi]
    rfl
  rw [q] at hd1
  rw [← Option.some.inj hd1] at hd2
  exact ⟨_, eg, hd2⟩
theorem take_over {es : List Ev} {i : Nat} (h : ¬ i < es.length) : es.take (i + 1) = es.take i := by
  rw [List.take_of_length_le (by omega), List.take_of_length_le (by omega)]
theorem bnd3 : bndE 3 ≤ 300000 := by decide +kernel
section
variable {P : Program} {w : World} {K : PySem.W.Frag} {mg : Str → Option Value} {base : Heap} {f : Addr} {fd : FuncData}
theorem ok_law (F : FunD K "law" "law" (defArgs s_law) (defBody s_law) (defScope s_law) [] [] (glAd "law" K) fd) (nb : Nm K mg) (k_Builder : Mak P w K mg base 1 "Builder" (C_Builder K) (sp_Builder___init__ K) []) (m_Builder_take : Met P w K mg base 3 (C_Builder K) "take" (sp_Builder_take K) []) (c__law_cell : Cal P w K mg base 1 "_law_cell" (sp__law_cell K) []) (c__law_state : Cal P w K mg base 2 "_law_state" (sp__law_state K) []) (c__law_value : Cal P w K mg base 10 "_law_value" (sp__law_value K 5) []) (c__law_mixed : Cal P w K mg base 32 "_law_mixed" (sp__law_mixed K 30) []) : FnOk P w K mg base CX0 33 (glAd "law" K) fd ["script"] (sp_law K) := by
  refine fnD F sc_law len1 (fun cdv A outer s H vs Q E hr h => ⟨_, (pss_cons (ps_set (i := 1) sc_law.nd rfl (Or.inl rfl) (pe_c c__law_state hr (by decide) rfl (pa_cons (pv 0) (pa_cons (pe_op op_add pe_int (pe_op op_mod (pe_callB call_abs (by rfl) nb.abs (by decide +kernel) (pa_cons (pe_c c__law_cell hr (by decide) rfl (pa_cons (pv 0) (pa_cons pe_int pa_nil))) pa_nil)) pe_int)) pa_nil))))
    (pss_cons (ps_set (i := 2) sc_law.nd rfl (Or.inl rfl) (pe_tup (pa_cons pe_str (pa_cons (pe_tup (pa_cons (pe_tup (pa_cons (pe_tup pa_nil) (pa_cons (pe_c c__law_value hr (by decide) rfl (pa_cons (pv 1) (pa_cons pe_int (pa_cons (pe_lst (pa_cons pe_str (pa_cons pe_str (pa_cons pe_str (pa_cons pe_str (pa_cons pe_str pa_nil)))))) (pa_cons pe_bl pa_nil))))) pa_nil))) (pa_cons (pe_tup (pa_cons (pe_tup (pa_cons pe_int pa_nil)) (pa_cons (pe_c c__law_value hr (by decide) rfl (pa_cons (pv 1) (pa_cons pe_int (pa_cons (pe_lst (pa_cons pe_str (pa_cons pe_str (pa_cons pe_str (pa_cons pe_str (pa_cons pe_str pa_nil)))))) (pa_cons pe_bl pa_nil))))) pa_nil))) pa_nil))) pa_nil))))
    (pss_cons (ps_set (i := 3) sc_law.nd rfl (Or.inl rfl) (pe_c c__law_value hr (by decide) rfl (pa_cons (pv 1) (pa_cons pe_int (pa_cons (pe_lst (pa_cons pe_str (pa_cons pe_str (pa_cons pe_str (pa_cons pe_str (pa_cons pe_str pa_nil)))))) (pa_cons pe_bl pa_nil))))))
    (pss_cons (ps_set (i := 4) sc_law.nd rfl (Or.inl rfl) (pe_c c__law_mixed hr (by decide) rfl (pa_cons (pv 1) (pa_cons (pv 2) pa_nil))))
    (pss_cons (ps_set (i := 5) sc_law.nd rfl (Or.inl rfl) (pe_c c__law_mixed hr (by decide) rfl (pa_cons (pv 1) (pa_cons (pv 3) pa_nil))))
    (pss_cons (ps_set (i := 6) sc_law.nd rfl (Or.inl rfl) (pe_mk0 k_Builder hr (by decide) rfl))
    (pss_cons (ps_set (i := 7) sc_law.nd rfl (Or.inl rfl) (pe_mk0 k_Builder hr (by decide) rfl))
    (pss_cons (ps_for PassesOwn.never rfl (pi_range1 rfl nb.range (pa_cons (pe_callB (cr_max rfl) (by rfl) nb.max (by decide +kernel) (pa_cons (pe_lst (pa_cons (pe_callB call_len_seq (by rfl) nb.len PySem.boot_len (pa_cons (pv 4) pa_nil)) (pa_cons (pe_callB call_len_seq (by rfl) nb.len PySem.boot_len (pa_cons (pv 5) pa_nil)) pa_nil))) pa_nil)) pa_nil)) (pg_name (i := 8) sc_law.nd rfl (Or.inl rfl))
    (pss_cut (ps_if (pt_cmpR op_lt (pv 8) (pe_callB call_len_seq (by rfl) nb.len PySem.boot_len (pa_cons (pv 4) pa_nil)) (nomark _))
    (pss_one (ps_expr (pe_mt m_Builder_take hr (by decide) (pv 6) (pa_cons (pe_ix ix_list (pv 4) (pv 8) (fun _ _ => rfl)) pa_nil))))
    pss_nil)
    (pss_one (ps_if (pt_cmpR op_lt (pv 8) (pe_callB call_len_seq (by rfl) nb.len PySem.boot_len (pa_cons (pv 5) pa_nil)) (nomark _))
    (pss_one (ps_expr (pe_mt m_Builder_take hr (by decide) (pv 7) (pa_cons (pe_ix ix_list (pv 5) (pv 8) (fun _ _ => rfl)) pa_nil))))
    pss_nil))))
    (pss_one (ps_ret (pe_and (pe_cmpR (op_eqW hr) (pe_fld (pv 6) rfl) (pv 2) (nomark _)) (pe_and (pe_cmpR (op_eqW hr) (pe_fld (pv 7) rfl) (pv 3) (nomark _)) (pe_and (pe_cmpR op_is_bl (pe_fld (pv 6) rfl) pe_bl (nomark _)) (pe_one (pe_cmpR op_is_bl (pe_fld (pv 7) rfl) pe_bl (nomark _)))))))))))))))), ?_⟩)
  obtain ⟨_, rfl, sl, ns, rfl, hs, h⟩ := h
  walk_at "rd"
  refine ⟨_, _, rfl, sl, ns, _, rfl, rfl, hs, by omega, fun z => ?_⟩
  walk_at "rd"
  refine ⟨_, _, rfl, sl, ns, _, rfl, rfl, hs, fun S H1 _ _ L1 _ _ => ?_⟩
  walk_at "rd"
  refine ⟨Nat.zero_le _, fun a0 n0 => ?_⟩
  obtain ⟨H2, e, L2, s2, g0⟩ := new_ L1 n0 (.tup [])
  rw [e]
  clear e n0
  walk_at "rd"
  refine ⟨by show 5 ≤ sizeLine; decide, fun p1 np1 => ?_⟩
  have p1S := L2.ne_free np1
  obtain ⟨H3, e, L3, s3, gp1⟩ := new_ L2 np1 (.lst [.str "null", .str "truth", .str "number", .str "bytes", .str "text"])
  rw [e]
  clear e np1
  walk_at "rd"
  refine ⟨_, _, _, _, rfl, S, p1, ["null", "truth", "number", "bytes", "text"], true, 3, rfl, rfl, by decide, rfl, rfl, L3, p1S, gp1, by simp, fun v1 t1 H4 ok1 tp1 L4 k4 => ?_⟩
  have tk4 := keep_tk L3 k4
  walk_at "rd"
  refine ⟨by show 2 ≤ sizeLine; decide, fun a1 n1 => ?_⟩
  obtain ⟨H5, e, L5, s5, g1⟩ := new_ L4 n1 (.tup [.ref a0, v1])
  rw [e]
  clear e n1
  walk_at "rd"
  refine ⟨by show 1 ≤ sizeLine; decide, fun a2 n2 => ?_⟩
  obtain ⟨H6, e, L6, s6, g2⟩ := new_ L5 n2 (.tup [.int 97])
  rw [e]
  clear e n2
  walk_at "rd"
  refine ⟨by show 5 ≤ sizeLine; decide, fun p2 np2 => ?_⟩
  have p2S := L6.ne_free np2
  obtain ⟨H7, e, L7, s7, gp2⟩ := new_ L6 np2 (.lst [.str "null", .str "truth", .str "number", .str "bytes", .str "text"])
  rw [e]
  clear e np2
  walk_at "rd"
  refine ⟨_, _, _, _, rfl, S, p2, ["null", "truth", "number", "bytes", "text"], true, 3, rfl, rfl, by decide, rfl, rfl, L7, p2S, gp2, by simp, fun v2 t2 H8 ok2 tp2 L8 k8 => ?_⟩
  have tk8 := keep_tk L7 k8
  walk_at "rd"
  refine ⟨by show 2 ≤ sizeLine; decide, fun a3 n3 => ?_⟩
  obtain ⟨H9, e, L9, s9, g3⟩ := new_ L8 n3 (.tup [.ref a2, v2])
  rw [e]
  clear e n3
  walk_at "rd"
  refine ⟨by show 2 ≤ sizeLine; decide, fun a4 n4 => ?_⟩
  obtain ⟨H10, e, L10, s10, g4⟩ := new_ L9 n4 (.tup [.ref a1, .ref a3])
  rw [e]
  clear e n4
  walk_at "rd"
  refine ⟨by show 2 ≤ sizeLine; decide, fun a5 n5 => ?_⟩
  obtain ⟨H11, e, L11, s11, g5⟩ := new_ L10 n5 (.tup [.str "map", .ref a4])
  rw [e]
  clear e n5
  have kA := s10.trans s11
  have kB : Tk H5 H11 := ((Same.tk (s6.trans s7)).trans tk8).trans (Same.tk (s9.trans kA))
  have tpV : Tp H11 (.ref a5) (Vl.mp [([], t1), ([97], t2)]).dat := .tup g5 (.cons (.str _) (.cons (.tup (s11 _ _ g4) (.cons (.tup (kB _ _ g1) (.cons (tp_kd (ns := []) ((((Same.tk s3).trans tk4).trans (Same.tk s5)).trans kB _ _ g0)) (.cons (Tp.tk ((Same.tk s5).trans kB) _ _ tp1) .nil))) (.cons (.tup (kA _ _ g3) (.cons (tp_kd (ns := [97]) (((Same.tk s7).trans tk8).trans (Same.tk (s9.trans kA)) _ _ g2)) (.cons (Tp.tk (Same.tk (s9.trans kA)) _ _ tp2) .nil))) .nil))) .nil))
  have okV : (Vl.mp [([], t1), ([97], t2)]).ok 4 := by
    refine ⟨by show 2 ≤ 49; decide, ?_, ?_, ok1, ok2, trivial⟩
    · show ([] :: ([97] : List Int) :: []).Pairwise _
      exact .cons (fun y hy => by
        have hy : y = [97] := by simpa using hy
        rw [hy]
        rfl) (List.pairwise_singleton _ _)
    · intro e he
      have he : e = ([], t1) ∨ e = ([97], t2) := by simpa using he
      rcases he with e1 | e1
      · rw [e1]
        exact Nat.zero_le _
      · rw [e1]
        show 1 ≤ 200
        decide
  have elV : (Vl.mp [([], t1), ([97], t2)]).evs.length ≤ 1000000 := by
    have b3 := bnd3
    have q1 := evs_bnd 3 t1 ok1
    have q2 := evs_bnd 3 t2 ok2
    have e : (Vl.mp [([], t1), ([97], t2)]).evs.length = ((t1.evs ++ (Ev.ky [97] :: (t2.evs ++ []))).length + 1) + 2 := evsM_len
    rw [e]
    simp only [List.length_append, List.length_cons, List.length_nil]
    omega
  generalize (Vl.mp [([], t1), ([97], t2)]) = tV at tpV okV elV
  clear kB kA g5 g4 g3 g2 g1 g0 tk8 tk4 tp1 tp2 ok1 ok2 gp1 gp2 L1 L2 L3 L4 L5 L6 L7 L8 L9 L10 s2 s3 k4 s5 s6 s7 k8 s9 s10 s11
  walk_at "rd"
  refine ⟨by show 5 ≤ sizeLine; decide, fun p3 np3 => ?_⟩
  have p3S := L11.ne_free np3
  obtain ⟨H12, e, L12, s12, gp3⟩ := new_ L11 np3 (.lst [.str "null", .str "truth", .str "number", .str "bytes", .str "text"])
  rw [e]
  clear e np3
  walk_at "rd"
  refine ⟨_, _, _, _, rfl, S, p3, ["null", "truth", "number", "bytes", "text"], true, 2, rfl, rfl, by decide, rfl, rfl, L12, p3S, gp3, by simp, fun vO tO H13 okO tpO L13 k13 => ?_⟩
  have tpV13 := Tp.tk ((Same.tk s12).trans (keep_tk L12 k13)) _ _ tpV
  have elO : tO.evs.length ≤ 1000000 := by
    have b3 := bnd3
    have q := evs_bnd 3 tO (ok_mono 2 tO okO)
    omega
  clear L11 L12 s12 k13 gp3 tpV
  walk_at "rd"
  refine ⟨_, _, rfl, S, tV, 4, rfl, L13, okV, by omega, tpV13, by omega, fun D ds mV H14 mxV DS gD tD L14 k14 => ?_⟩
  have tk14 := keep_tk L13 k14
  walk_at "rd"
  refine ⟨_, _, rfl, S, tO, 2, rfl, L14, okO, by omega, Tp.tk tk14 _ _ tpO, by omega, fun E es mO H15 mxO ES gE tE L15 k15 => ?_⟩
  have tk15 := keep_tk L14 k15
  have gD := k15 _ _ DS gD
  have tD := TpAll.tk tk15 _ _ tD
  have tpV := Tp.tk (tk14.trans tk15) _ _ tpV13
  have tpO := Tp.tk (tk14.trans tk15) _ _ tpO
  clear tk14 tk15 tpV13 L13 L14 k14 k15
  walk_at "rd"
  refine d_builder fun b fl H16 nb_ nfl B0 s16 => ?_
  walk_at "rd"
  refine d_builder fun c gl H17 nc ngl C0 s17 => ?_
  have s17' := s16.trans s17
  walk_at "rd"
  refine ⟨D, ds, rfl, .inl (SqL.of (s17' _ _ gD)), ?_⟩
  walk_at "rd"
  refine ⟨E, es, rfl, .inl (SqL.of (s17' _ _ gE)), ?_⟩
  walk_at "rd"
  refine ⟨by show 2 ≤ sizeLine; decide, fun q nq => ?_⟩
  have s18 := same_upd nq (.lst [.int (ds.length : Nat), .int (es.length : Nat)])
  have hq : upd H17 q (.lst [.int (ds.length : Nat), .int (es.length : Nat)]) q = some (.lst [.int (ds.length : Nat), .int (es.length : Nat)]) := upd_same
  have lvB := B0.live
  have B1 := (B0.same s17).same s18
  have C1 := C0.same s18
  have s18 := s17'.trans s18
  generalize upd H17 q (.lst [.int (ds.length : Nat), .int (es.length : Nat)]) = H18 at s18 hq B1 C1 ⊢
  clear B0 C0
  walk_at "rd"
  refine ⟨q, [((ds.length : Nat) : Int), ((es.length : Nat) : Int)], rfl, SqL.of hq, by show 0 < 2; decide, fun M hM hle => ?_⟩
  have hlV : ds.length = mV.evs.length := by rw [tpAll_len tD, evD_len]
  have hlO : es.length = mO.evs.length := by rw [tpAll_len tE, evD_len]
  have mlV := mx_len 4 tV mV okV mxV
  have mlO := mx_len 2 tO mO okO mxO
  have M1 : ((ds.length : Nat) : Int) ≤ M := hle _ (by simp)
  have M2 : ((es.length : Nat) : Int) ≤ M := hle _ (by simp)
  have M3 : M = ((ds.length : Nat) : Int) ∨ M = ((es.length : Nat) : Int) := by simpa using hM
  obtain ⟨okV0, runV⟩ := run_mixed okV mxV (by omega)
  obtain ⟨okO0, runO⟩ := run_mixed okO mxO (by omega)
  walk_at "rd"
  refine r_turns (by omega) (by omega) (fun i σ H' => ∃ (cs gs : List Cf) (y : Option V), σ = [some (.ref sl), some (.ref S.a), some (.ref a5), some vO, some (.ref D), some (.ref E), some (.ref b), some (.ref c), y] ∧ BAt K H' b fl ((Bs.mk [] none).run (mV.evs.take i)) cs ∧ BAt K H' c gl ((Bs.mk [] none).run (mO.evs.take i)) gs ∧ (∀ x ∈ own b fl cs, H15 x = none) ∧ (∀ x ∈ own c gl gs, H15 x = none) ∧ (∀ x ∈ own b fl cs, x ∉ own c gl gs) ∧ Same H15 H') ⟨[], [], _, rfl, B1, C1, fun x hx => ?_, fun x hx => ?_, fun x hx hc => ?_, s18⟩ ?_ ?_
  · have hx : x = b ∨ x = fl := by simpa [own, ownC] using hx
    rcases hx with e | e
    · rw [e]
      exact nb_
    · rw [e]
      exact nfl
  · have hx : x = c ∨ x = gl := by simpa [own, ownC] using hx
    have nn : H16 x = none := by
      rcases hx with e | e
      · rw [e]
        exact nc
      · rw [e]
        exact ngl
    cases e : H15 x with
    | none => rfl
    | some u =>
      rw [s16 _ _ e] at nn
      cases nn
  · have hc : x = c ∨ x = gl := by simpa [own, ownC] using hc
    have nn : H16 x = none := by
      rcases hc with e | e
      · rw [e]
        exact nc
      · rw [e]
        exact ngl
    obtain ⟨u, z⟩ := lvB x hx
    rw [nn] at z
    cases z
  · rintro i σ H19 hi ⟨cs, gs, y, rfl, B, C, fB, fC, dj, s19⟩
    walk_at "rd"
    refine r_cut (fun σ H' => ∃ cs : List Cf, σ = [some (.ref sl), some (.ref S.a), some (.ref a5), some vO, some (.ref D), some (.ref E), some (.ref b), some (.ref c), some (.int (i : Nat))] ∧ BAt K H' b fl ((Bs.mk [] none).run (mV.evs.take (i + 1))) cs ∧ BAt K H' c gl ((Bs.mk [] none).run (mO.evs.take i)) gs ∧ (∀ x ∈ own b fl cs, H15 x = none) ∧ (∀ x ∈ own b fl cs, x ∉ own c gl gs) ∧ Same H15 H') ?_ ?_
    · walk_at "rd"
      refine ⟨D, ds, rfl, .inl (SqL.of (s19 _ _ gD)), ?_⟩
      walk_at "rd"
      refine r_ite (fun c1 => ?_) (fun c1 => ?_)
      · have hi2 : i < mV.evs.length := by omega
        obtain ⟨x, hx, tpx⟩ := ev_at tD hi2
        have hev : mV.evs[i]? = some mV.evs[i] := List.getElem?_eq_getElem hi2
        obtain ⟨val, vn⟩ := okRun_at mV.evs _ i _ okV0 hev
        obtain ⟨⟨dx, bv, hb, hbv⟩, _, _, _, _⟩ := id B
        walk_at "rd"
        refine ⟨b, _, _, rfl, hb, rfl, ?_⟩
        walk_at "rd"
        refine r_ixL (SqL.of (s19 _ _ gD)) (atI_nat hx) ?_
        walk_at "rd"
        refine ⟨_, _, rfl, b, fl, _, cs, mV.evs[i], rfl, B, Tp.tk (Same.tk s19) _ _ tpx, val, vn, fun cs' H20 B' o w tk => ?_⟩
        walk_at "rd"
        obtain ⟨C', dj', fB', s20⟩ := two_step (st := ⟨[], none⟩) (st1 := ⟨[], none⟩) C o w tk dj fB s19
        exact ⟨cs', rfl, by rw [run_take hev]; exact B', C', fB', dj', s20⟩
      · walk_at "rd"
        exact ⟨cs, rfl, by rw [take_over (by omega)]; exact B, C, fB, dj, s19⟩
    clear B fB dj s19 cs
    rintro σ H21 ⟨cs, rfl, B, C, fB, dj, s19⟩
    walk_at "rd"
    refine ⟨E, es, rfl, .inl (SqL.of (s19 _ _ gE)), ?_⟩
    walk_at "rd"
    refine r_ite (fun c1 => ?_) (fun c1 => ?_)
    · have hi2 : i < mO.evs.length := by omega
      obtain ⟨x, hx, tpx⟩ := ev_at tE hi2
      have hev : mO.evs[i]? = some mO.evs[i] := List.getElem?_eq_getElem hi2
      obtain ⟨val, vn⟩ := okRun_at mO.evs _ i _ okO0 hev
      obtain ⟨⟨dx, bv, hb, hbv⟩, _, _, _, _⟩ := id C
      walk_at "rd"
      refine ⟨c, _, _, rfl, hb, rfl, ?_⟩
      walk_at "rd"
      refine r_ixL (SqL.of (s19 _ _ gE)) (atI_nat hx) ?_
      walk_at "rd"
      refine ⟨_, _, rfl, c, gl, _, gs, mO.evs[i], rfl, C, Tp.tk (Same.tk s19) _ _ tpx, val, vn, fun gs' H20 C' o w tk => ?_⟩
      walk_at "rd"
      obtain ⟨B', dj', fC', s20⟩ := two_step (st := ⟨[], none⟩) (st1 := ⟨[], none⟩) B o w tk (fun x hx hb => dj x hb hx) fC s19
      exact ⟨cs, gs', _, rfl, B', by rw [run_take hev]; exact C', fB, fC', fun x hx hb => dj' x hb hx, s20⟩
    · walk_at "rd"
      exact ⟨cs, gs, _, rfl, B, by rw [take_over (by omega)]; exact C, fB, fC, dj, s19⟩
  rintro σ H19 ⟨cs, gs, y, rfl, B, C, fB, fC, dj, s19⟩
  rw [List.take_of_length_le (by omega), runV] at B
  rw [List.take_of_length_le (by omega), runO] at C
  obtain ⟨⟨dx, bv, hb, hbv⟩, _, _, _, _⟩ := id B
  obtain ⟨⟨dc, cv, hc, hcv⟩, _, _, _, _⟩ := id C
  have hbv : Tp H19 bv tV.dat := hbv
  have hcv : Tp H19 cv tO.dat := hcv
  walk_at "rd"
  refine r_fget hb nb.cl_Builder nb.na_Builder_value lk_Builder_value ?_
  walk_at "rd"
  refine ⟨tV.dat, Tp.dp _ _ hbv, Tp.dp _ _ (Tp.tk (Same.tk s19) _ _ tpV), vl_lay _ _ okV, Nat.le_trans (vl_depth _ _ okV) (by omega), ?_⟩
  walk_at "rd"
  refine r_fget hc nb.cl_Builder nb.na_Builder_value lk_Builder_value ?_
  walk_at "rd"
  refine ⟨tO.dat, Tp.dp _ _ hcv, Tp.dp _ _ (Tp.tk (Same.tk s19) _ _ tpO), vl_lay _ _ okO, Nat.le_trans (vl_depth _ _ okO) (by omega), ?_⟩
  walk_at "rd"
  refine r_fget hb nb.cl_Builder nb.na_Builder_is_done lk_Builder_is_done ?_
  walk_at "rd"
  refine ⟨_, _, rfl, rfl, ?_⟩
  walk_at "rd"
  rw [if_pos (show decide ((Bs.mk [] (some tV)).val.isSome = true) = true from rfl)]
  walk_at "rd"
  refine r_fget hc nb.cl_Builder nb.na_Builder_is_done lk_Builder_is_done ?_
  walk_at "rd"
  refine ⟨_, _, rfl, rfl, ?_⟩
  exact h _
end

def d_Builder___init__ : DefM := { ad := meAd "Builder" "__init__", nm := "__init__", ql := "Builder.__init__", pa := defArgs s_Builder___init__, bo := defBody s_Builder___init__, sc := defScope s_Builder___init__ }
def d_Frame___init__ : DefM := { ad := meAd "Frame" "__init__", nm := "__init__", ql := "Frame.__init__", pa := defArgs s_Frame___init__, bo := defBody s_Frame___init__, sc := defScope s_Frame___init__ }
def d_list_of : DefM := { ad := glAd "list_of", nm := "list_of", ql := "list_of", pa := defArgs s_list_of, bo := defBody s_list_of, sc := defScope s_list_of }
def d_map_of : DefM := { ad := glAd "map_of", nm := "map_of", ql := "map_of", pa := defArgs s_map_of, bo := defBody s_map_of, sc := defScope s_map_of }
def d_Frame_built : DefM := { ad := meAd "Frame" "built", nm := "built", ql := "Frame.built", pa := defArgs s_Frame_built, bo := defBody s_Frame_built, sc := defScope s_Frame_built }
def d_Frame_put : DefM := { ad := meAd "Frame" "put", nm := "put", ql := "Frame.put", pa := defArgs s_Frame_put, bo := defBody s_Frame_put, sc := defScope s_Frame_put }
def d_Builder__put : DefM := { ad := meAd "Builder" "_put", nm := "_put", ql := "Builder._put", pa := defArgs s_Builder__put, bo := defBody s_Builder__put, sc := defScope s_Builder__put }
def d_Builder_take : DefM := { ad := meAd "Builder" "take", nm := "take", ql := "Builder.take", pa := defArgs s_Builder_take, bo := defBody s_Builder_take, sc := defScope s_Builder_take }
def d__law_cell : DefM := { ad := glAd "_law_cell", nm := "_law_cell", ql := "_law_cell", pa := defArgs s__law_cell, bo := defBody s__law_cell, sc := defScope s__law_cell }
def d__law_numbers : DefM := { ad := glAd "_law_numbers", nm := "_law_numbers", ql := "_law_numbers", pa := defArgs s__law_numbers, bo := defBody s__law_numbers, sc := defScope s__law_numbers }
def d__law_state : DefM := { ad := glAd "_law_state", nm := "_law_state", ql := "_law_state", pa := defArgs s__law_state, bo := defBody s__law_state, sc := defScope s__law_state }
def d__law_next : DefM := { ad := glAd "_law_next", nm := "_law_next", ql := "_law_next", pa := defArgs s__law_next, bo := defBody s__law_next, sc := defScope s__law_next }
def d__law_points : DefM := { ad := glAd "_law_points", nm := "_law_points", ql := "_law_points", pa := defArgs s__law_points, bo := defBody s__law_points, sc := defScope s__law_points }
def d__law_big : DefM := { ad := glAd "_law_big", nm := "_law_big", ql := "_law_big", pa := defArgs s__law_big, bo := defBody s__law_big, sc := defScope s__law_big }
def d__law_normal : DefM := { ad := glAd "_law_normal", nm := "_law_normal", ql := "_law_normal", pa := defArgs s__law_normal, bo := defBody s__law_normal, sc := defScope s__law_normal }
def d__law_number : DefM := { ad := glAd "_law_number", nm := "_law_number", ql := "_law_number", pa := defArgs s__law_number, bo := defBody s__law_number, sc := defScope s__law_number }
def d__law_octets : DefM := { ad := glAd "_law_octets", nm := "_law_octets", ql := "_law_octets", pa := defArgs s__law_octets, bo := defBody s__law_octets, sc := defScope s__law_octets }
def d__law_leaf : DefM := { ad := glAd "_law_leaf", nm := "_law_leaf", ql := "_law_leaf", pa := defArgs s__law_leaf, bo := defBody s__law_leaf, sc := defScope s__law_leaf }
def d__law_value : DefM := { ad := glAd "_law_value", nm := "_law_value", ql := "_law_value", pa := defArgs s__law_value, bo := defBody s__law_value, sc := defScope s__law_value }
def d__law_mixed : DefM := { ad := glAd "_law_mixed", nm := "_law_mixed", ql := "_law_mixed", pa := defArgs s__law_mixed, bo := defBody s__law_mixed, sc := defScope s__law_mixed }
def d_law : DefM := { ad := glAd "law", nm := "law", ql := "law", pa := defArgs s_law, bo := defBody s_law, sc := defScope s_law }
def fn : List DefM := [d_Builder___init__, d_Frame___init__, d_list_of, d_map_of, d_Frame_built, d_Frame_put, d_Builder__put, d_Builder_take, d__law_cell, d__law_numbers, d__law_state, d__law_next, d__law_points, d__law_big, d__law_normal, d__law_number, d__law_octets, d__law_leaf, d__law_value, d__law_mixed, d_law]
def fa : List He.Fa := [.glo "list_of", .glo "map_of", .glo "_law_cell", .glo "_law_numbers", .glo "_law_state", .glo "_law_next", .glo "_law_points", .glo "_law_big", .glo "_law_normal", .glo "_law_number", .glo "_law_octets", .glo "_law_leaf", .glo "_law_value", .glo "_law_mixed", .glo "law", .free "tuple", .free "sorted", .free "len", .free "abs", .free "range", .free "int", .free "max", .cls "Frame", .glo "Frame", .mkr "Frame", .noat "Frame" "kind", .noat "Frame" "key", .noat "Frame" "inside", .meth "Frame" "put", .meth "Frame" "built", .cls "Builder", .glo "Builder", .mkr "Builder", .noat "Builder" "is_done", .noat "Builder" "value", .noat "Builder" "_frames", .meth "Builder" "take", .meth "Builder" "_put"]
def ex (K : Frg) : Bool := digB K
abbrev RR : PySem.W.OpenRow := PySem.W.OpenLaw.row PySem.Challenge.rw_formsalike_k11_entries_in_any_order
def loose : List PySem.Str := (["AlikeError", "Doubled", "list_of", "map_of", "Frame", "Builder", "_law_cell", "_law_numbers", "_law_state", "_law_next", "_law_big", "_law_normal", "_law_number", "_law_points", "_law_octets", "_law_leaf", "_law_value", "_law_mixed"] : List PySem.Str)
abbrev hk : PySem.W.Hook := hookM 5 fa ex fn
def ob (s : PySem.W.SharedT) : AlM := obsM fa ex fn (frM 5 (HandSHeadRun.getT s))
theorem ob_eq (s : PySem.W.SharedT) : ob s = hk.obs s.abs := obsM_eq (HandSHeadRun.getT_eq s)
theorem run (w : World) : HandSHeadRun.RunEq RR (PySem.W.view RR.prog [22]) hk ob 6000 loose w := by
  intro os
  kernel_rfl
theorem facts {P : Program} {w : World} {K : PySem.W.Frag} {h : Heap} {mg : Str → Option Value} {f : Addr} (X : K.In h) (G : h.Ns mainGlobals mg) (hfa : mg ("law" : Str) = some (.ref f)) (c : SaysM fa ex fn K) :
    ∃ fd : FuncData, (∀ (s : Shared) (v : Value), BindsTo s fd ⟨[v], []⟩ [("script", v)]) ∧ ∀ base : Heap, K.In base → base.Ns mainGlobals mg → FnOk P w K mg base CX0 33 f fd ["script"] (sp_law K) := by
  obtain ⟨fd_Builder___init__, F_Builder___init__⟩ := c.def_ 0 (d := d_Builder___init__) rfl
  obtain ⟨fd_Frame___init__, F_Frame___init__⟩ := c.def_ 1 (d := d_Frame___init__) rfl
  obtain ⟨fd_list_of, F_list_of⟩ := c.def_ 2 (d := d_list_of) rfl
  obtain ⟨fd_map_of, F_map_of⟩ := c.def_ 3 (d := d_map_of) rfl
  obtain ⟨fd_Frame_built, F_Frame_built⟩ := c.def_ 4 (d := d_Frame_built) rfl
  obtain ⟨fd_Frame_put, F_Frame_put⟩ := c.def_ 5 (d := d_Frame_put) rfl
  obtain ⟨fd_Builder__put, F_Builder__put⟩ := c.def_ 6 (d := d_Builder__put) rfl
  obtain ⟨fd_Builder_take, F_Builder_take⟩ := c.def_ 7 (d := d_Builder_take) rfl
  obtain ⟨fd__law_cell, F__law_cell⟩ := c.def_ 8 (d := d__law_cell) rfl
  obtain ⟨fd__law_numbers, F__law_numbers⟩ := c.def_ 9 (d := d__law_numbers) rfl
  obtain ⟨fd__law_state, F__law_state⟩ := c.def_ 10 (d := d__law_state) rfl
  obtain ⟨fd__law_next, F__law_next⟩ := c.def_ 11 (d := d__law_next) rfl
  obtain ⟨fd__law_points, F__law_points⟩ := c.def_ 12 (d := d__law_points) rfl
  obtain ⟨fd__law_big, F__law_big⟩ := c.def_ 13 (d := d__law_big) rfl
  obtain ⟨fd__law_normal, F__law_normal⟩ := c.def_ 14 (d := d__law_normal) rfl
  obtain ⟨fd__law_number, F__law_number⟩ := c.def_ 15 (d := d__law_number) rfl
  obtain ⟨fd__law_octets, F__law_octets⟩ := c.def_ 16 (d := d__law_octets) rfl
  obtain ⟨fd__law_leaf, F__law_leaf⟩ := c.def_ 17 (d := d__law_leaf) rfl
  obtain ⟨fd__law_value, F__law_value⟩ := c.def_ 18 (d := d__law_value) rfl
  obtain ⟨fd__law_mixed, F__law_mixed⟩ := c.def_ 19 (d := d__law_mixed) rfl
  obtain ⟨fd_law, F_law⟩ := c.def_ 20 (d := d_law) rfl
  have m_list_of := He.glo_ok X G (x := "list_of") (c.fact 0 rfl)
  have m_map_of := He.glo_ok X G (x := "map_of") (c.fact 1 rfl)
  have m__law_cell := He.glo_ok X G (x := "_law_cell") (c.fact 2 rfl)
  have m__law_numbers := He.glo_ok X G (x := "_law_numbers") (c.fact 3 rfl)
  have m__law_state := He.glo_ok X G (x := "_law_state") (c.fact 4 rfl)
  have m__law_next := He.glo_ok X G (x := "_law_next") (c.fact 5 rfl)
  have m__law_points := He.glo_ok X G (x := "_law_points") (c.fact 6 rfl)
  have m__law_big := He.glo_ok X G (x := "_law_big") (c.fact 7 rfl)
  have m__law_normal := He.glo_ok X G (x := "_law_normal") (c.fact 8 rfl)
  have m__law_number := He.glo_ok X G (x := "_law_number") (c.fact 9 rfl)
  have m__law_octets := He.glo_ok X G (x := "_law_octets") (c.fact 10 rfl)
  have m__law_leaf := He.glo_ok X G (x := "_law_leaf") (c.fact 11 rfl)
  have m__law_value := He.glo_ok X G (x := "_law_value") (c.fact 12 rfl)
  have m__law_mixed := He.glo_ok X G (x := "_law_mixed") (c.fact 13 rfl)
  have m_law := He.glo_ok X G (x := "law") (c.fact 14 rfl)
  have xx : ex K = true := c.more
  have x0 := xx
  have nb : Nm K mg := ⟨He.free_ok X G (c.fact 15 rfl),
    He.free_ok X G (c.fact 16 rfl),
    He.free_ok X G (c.fact 17 rfl),
    He.free_ok X G (c.fact 18 rfl),
    He.free_ok X G (c.fact 19 rfl),
    He.free_ok X G (c.fact 20 rfl),
    He.free_ok X G (c.fact 21 rfl),
    He.cls_ok (c.fact 22 rfl),
    He.glo_ok X G (c.fact 23 rfl),
    He.mkr_ok (c.fact 24 rfl),
    He.noat_ok (c.fact 25 rfl),
    He.noat_ok (c.fact 26 rfl),
    He.noat_ok (c.fact 27 rfl),
    He.meth_ok (c.fact 28 rfl),
    He.meth_ok (c.fact 29 rfl),
    He.cls_ok (c.fact 30 rfl),
    He.glo_ok X G (c.fact 31 rfl),
    He.mkr_ok (c.fact 32 rfl),
    He.noat_ok (c.fact 33 rfl),
    He.noat_ok (c.fact 34 rfl),
    He.noat_ok (c.fact 35 rfl),
    He.meth_ok (c.fact 36 rfl),
    He.meth_ok (c.fact 37 rfl),
    He.eqO_ok x0⟩
  have e := hfa.symm.trans m_law
  cases e
  have b := FunD.bindsA (ps := ["script"]) F_law fun _ _ _ _ _ _ us hl => match us, hl with | [_], _ => rfl
  refine ⟨fd_law, fun s v => b s [v] rfl, fun base _ _ => ?_⟩
  have k_Builder := ok_Builder___init__ (P := P) (w := w) (base := base) F_Builder___init__ nb
  have k_Frame := ok_Frame___init__ (P := P) (w := w) (base := base) F_Frame___init__ nb
  have c_list_of := ok_list_of (P := P) (w := w) (base := base) F_list_of m_list_of nb
  have c_map_of := ok_map_of (P := P) (w := w) (base := base) F_map_of m_map_of nb
  have m_Frame_built := ok_Frame_built (P := P) (w := w) (base := base) F_Frame_built nb c_list_of c_map_of
  have m_Frame_put := ok_Frame_put (P := P) (w := w) (base := base) F_Frame_put nb
  have m_Builder__put := ok_Builder__put (P := P) (w := w) (base := base) F_Builder__put nb m_Frame_put
  have m_Builder_take := ok_Builder_take (P := P) (w := w) (base := base) F_Builder_take nb k_Frame m_Frame_built m_Builder__put
  have c__law_cell := ok__law_cell (P := P) (w := w) (base := base) F__law_cell m__law_cell nb
  have c__law_numbers := ok__law_numbers (P := P) (w := w) (base := base) F__law_numbers m__law_numbers nb
  have c__law_state := ok__law_state (P := P) (w := w) (base := base) F__law_state m__law_state nb c__law_cell c__law_numbers
  have c__law_next := ok__law_next (P := P) (w := w) (base := base) F__law_next m__law_next nb
  have c__law_points := ok__law_points (P := P) (w := w) (base := base) F__law_points m__law_points nb c__law_next
  have c__law_big := ok__law_big (P := P) (w := w) (base := base) F__law_big m__law_big nb c__law_cell c__law_next
  have c__law_normal := ok__law_normal (P := P) (w := w) (base := base) F__law_normal m__law_normal nb
  have c__law_number := ok__law_number (P := P) (w := w) (base := base) F__law_number m__law_number nb c__law_next c__law_big c__law_normal
  have c__law_octets := ok__law_octets (P := P) (w := w) (base := base) F__law_octets m__law_octets nb c__law_next
  have c__law_leaf := ok__law_leaf (P := P) (w := w) (base := base) F__law_leaf m__law_leaf nb c__law_next c__law_number c__law_points c__law_octets
  have c__law_value := rec__law_value (P := P) (w := w) (base := base) F__law_value m__law_value nb c__law_next c__law_points c__law_leaf 5
  have c__law_mixed := rec__law_mixed (P := P) (w := w) (base := base) F__law_mixed m__law_mixed nb c__law_next 30
  exact ok_law F_law nb k_Builder m_Builder_take c__law_cell c__law_state c__law_value c__law_mixed
end Fa
open PySem PySem.W PySem.Calls PyProof.Rows
theorem PySem.Challenge.cw_formsalike_k11_entries_in_any_order_holds : PySem.Challenge.rw_formsalike_k11_entries_in_any_order.Holds := by
  w_on; o_law
  refine HandSHeadRun.head_any (r := OpenLaw.row PySem.Challenge.rw_formsalike_k11_entries_in_any_order) (q := view (OpenLaw.row PySem.Challenge.rw_formsalike_k11_entries_in_any_order).prog [22]) (H := Fa.hk) (ob := Fa.ob) (M := 6000) (loose := Fa.loose) (d := HandSHeadRun.topDef (OpenLaw.row PySem.Challenge.rw_formsalike_k11_entries_in_any_order).prog 22) (kwd := []) Fa.ob_eq
    (by kernel_rfl) (fun s => by kernel_rfl) Fa.run (by kernel_rfl) (by kernel_rfl) (by kernel_rfl) (by rfl) (by first | assumption | decide +kernel) (by decide +kernel) ⟨rfl, rfl, rfl, rfl, rfl, by decide +kernel⟩ ?hw ?hc
  case hw => w_witness2
  case hc =>
    refine L2.walk_ofE (l := PySem.Challenge.rw_formsalike_k11_entries_in_any_order) (n := 63) (k := 33) (x := "script") (CX := L2.CX0) rfl (by decide) (by kernel_rfl) ⟨rfl, by decide, by decide⟩ ?F (fun _ _ _ _ z => z)
    intro w mg fa h Y G hmg0
    obtain ⟨K, KX, c⟩ := Y
    have hmg : mg ("law" : PySem.Str) = some (.ref fa) := by
      have e : (HandSHeadRun.topDef (OpenLaw.row PySem.Challenge.rw_formsalike_k11_entries_in_any_order).prog 22).name = ("law" : PySem.Str) := by kernel_rfl
      rw [← e]
      exact hmg0
    obtain ⟨fd, hb, hF⟩ := Fa.facts (P := (PySem.Challenge.rw_formsalike_k11_entries_in_any_order).prog) (w := w) KX G hmg c
    exact ⟨K, fd, Fa.sp_law K, KX, hb, fun H a ns hl _ hS => ⟨_, rfl, a, ns, rfl, hS, fun _ => rfl⟩, hF⟩
