import PyProof.Rows.All
import Wide.All
import OpenK.AllK
import Wide.FinOn
import KE.KStateDown
import KE.GoesMore
import KE.GoesEnum
import HandS.Iter
import HandS.TupLe
import KE.KEqSeq
import KE.KEqDeep
import HandS.ForMost
import HandS.Exc
import HandS.More
import HandS.Wide
import HandS.Property
import HandS.WideBits
import HandS.Conv
import HandS.Codes
import HandS.IsInst
import HandS.Flow
import HandS.Defaults
import HandS.EndBits
import HandS.Head0
import HandS.Head1
import HandS.Head2
import HandS.HeadEnd
import HandS.HeadHook1
import HandS.HeadHook2
import PySem.Challenge.RW_formsalike_k07_utf8_first_fault
set_option Elab.async false
set_option linter.all false
set_option maxRecDepth 100000
set_option maxHeartbeats 4000000
namespace Fa
open PySem PySem.Spec L2 SX
open PyProof.Rows (envOfC)
open C8 (Cal pe_c Mak pe_mk Met pe_mt pe_mt0 pe_gc tCut pss_cut)
def top (i : Nat) : Stmt := PySem.Challenge.pw_formsalike_k07_utf8_first_fault.main.body.getD i (.Pass ⟨0, 0, 0, 0⟩)

/-! ### readings, a step each -/
section
variable {σ : St} {H : Hp} {n b c : St → Hp → Prop} {r : VK} {Q : VK} {K : PySem.W.Frag}
theorem r_seq {t u : TS} (h : t ⟨u ⟨n, r, b, c⟩, r, b, c⟩ σ H) : tSeq t u ⟨n, r, b, c⟩ σ H := h
theorem r_asg {te : TE} {g : TG} (h : te σ H fun x H1 => g x σ H1 n) : tAsg te g ⟨n, r, b, c⟩ σ H := h
theorem r_name {i : Nat} {v : V} {R : St → Hp → Prop} (h : R (σ.set i (some v)) H) : gName i v σ H R := h
theorem r_var {i : Nat} {v : V} (e : σ[i]? = some (some v)) (h : Q v H) : tVar i σ H Q := ⟨v, e, h⟩
theorem r_c {v : V} (h : Q v H) : tC v σ H Q := h
theorem r_op {r : R2} {ta tb : TE} (h : ta σ H fun x H1 => tb σ H1 fun y H2 => r x y H2 Q) : tOp r ta tb σ H Q := h
theorem r_un {r : V → Hp → VK → Prop} {ta : TE} (h : ta σ H fun x H1 => r x H1 Q) : tUn r ta σ H Q := h
theorem r_I0 {g : Int → Int → V} {i j : Int} (h : Q (g i j) H) : rI0 g (.int i) (.int j) H Q := ⟨i, j, rfl, rfl, h⟩
theorem r_I {C : Int → Int → Prop} {g : Int → Int → V} {i j : Int} (c : C i j) (h : Q (g i j) H) : rI C g (.int i) (.int j) H Q := ⟨i, j, rfl, rfl, c, h⟩
theorem r_U {g : Int → V} {i : Int} (h : Q (g i) H) : rU g (.int i) H Q := ⟨i, rfl, h⟩
theorem r_eqI {i j : Int} (h : Q (.bl (decide (i = j))) H) : rEq (.int i) (.int j) H Q := by
  have e : decide (V.int i = V.int j) = decide (i = j) := by simp
  exact ⟨rfl, by rw [e]; exact h⟩
theorem r_neI {i j : Int} (h : Q (.bl (!decide (i = j))) H) : rNe (.int i) (.int j) H Q := by
  have e : decide (V.int i = V.int j) = decide (i = j) := by simp
  exact ⟨rfl, by rw [e]; exact h⟩
theorem r_eqS {i j : Str} (h : Q (.bl (decide (i = j))) H) : rEq (.str i) (.str j) H Q := by
  have e : decide (V.str i = V.str j) = decide (i = j) := by simp
  exact ⟨rfl, by rw [e]; exact h⟩
theorem r_neS {i j : Str} (h : Q (.bl (!decide (i = j))) H) : rNe (.str i) (.str j) H Q := by
  have e : decide (V.str i = V.str j) = decide (i = j) := by simp
  exact ⟨rfl, by rw [e]; exact h⟩
theorem r_nil {R : List V → Hp → Prop} (h : R [] H) : tNil σ H R := h
theorem r_cons {te : TE} {t : TA} {R : List V → Hp → Prop} (h : te σ H fun x H1 => t σ H1 fun xs H2 => R (x :: xs) H2) : tCons te t σ H R := h
theorem r_drop {te : TE} (h : te σ H fun _ H1 => n σ H1) : tDrop te ⟨n, r, b, c⟩ σ H := h
theorem r_ret {te : TE} (h : te σ H r) : tRet te ⟨n, r, b, c⟩ σ H := h
theorem r_retN (h : r .non H) : tRetN ⟨n, r, b, c⟩ σ H := h
theorem r_next (h : n σ H) : tNext ⟨n, r, b, c⟩ σ H := h
theorem r_brk (h : b σ H) : tBreak ⟨n, r, b, c⟩ σ H := h
theorem r_if {e : TT} {t u : TS} (h : e σ H fun k H1 => if k = true then t ⟨n, r, b, c⟩ σ H1 else u ⟨n, r, b, c⟩ σ H1) : tIfS e t u ⟨n, r, b, c⟩ σ H := h
theorem r_ifE {c : TT} {ta tb : TE} (h : c σ H fun b H1 => if b = true then ta σ H1 Q else tb σ H1 Q) : tIf c ta tb σ H Q := h
theorem r_test {te : TE} {R : Bool → Hp → Prop} (h : te σ H fun x H' => ∃ k, x = .bl k ∧ R k H') : tTest te σ H R := h
theorem r_B {te : TE} {R : Bool → Hp → Prop} (h : te σ H fun x H' => ∃ k, x = .bl k ∧ R k H') : tB te σ H R := h
theorem r_bl {b : Bool} {R : Bool → Prop} (h : R b) : ∃ k, V.bl b = .bl k ∧ R k := ⟨b, rfl, h⟩
theorem r_and {t u : TT} {R : Bool → Hp → Prop} (h : t σ H fun c H1 => if c = true then u σ H1 R else R false H1) : tAnd t u σ H R := h
theorem r_or {t u : TT} {R : Bool → Hp → Prop} (h : t σ H fun c H1 => if c = true then R true H1 else u σ H1 R) : tOr t u σ H R := h
theorem r_not {t : TT} {R : Bool → Hp → Prop} (h : t σ H fun c H1 => R (!c) H1) : tNot t σ H R := h
theorem r_andV {ta tb : TE} (h : ta σ H fun x H1 => ∃ c, x = .bl c ∧ if c = true then tb σ H1 Q else Q (.bl false) H1) : tAndV ta tb σ H Q := h
theorem r_orV {ta tb : TE} (h : ta σ H fun x H1 => ∃ c, x = .bl c ∧ if c = true then Q (.bl true) H1 else tb σ H1 Q) : tOrV ta tb σ H Q := h
theorem r_notV {ta : TE} (h : ta σ H fun x H1 => ∃ c, x = .bl c ∧ Q (.bl (!c)) H1) : tNotV ta σ H Q := h
theorem r_chain {r r' : R2} {ta tb tc : TE} (h : ta σ H fun x H1 => tb σ H1 fun y H2 => r x y H2 fun z H3 => ∃ k, z = .bl k ∧ (if k = true then tc σ H3 fun w' H4 => r' y w' H4 Q else Q (.bl false) H3)) : tChain r r' ta tb tc σ H Q := h
theorem r_tup {t : TA} (h : t σ H fun xs H1 => xs.length ≤ sizeLine ∧ ∀ p, H1 p = none → Q (.ref p) (upd H1 p (.tup xs))) : tTup t σ H Q := h
theorem r_lst {t : TA} (h : t σ H fun xs H1 => xs.length ≤ sizeLine ∧ ∀ p, H1 p = none → Q (.ref p) (upd H1 p (.lst xs))) : tLst t σ H Q := h
theorem r_call {sp : Sp} {dvs : List V} {E : XK} {t : TA} (h : t σ H fun vs H1 => sp (vs ++ dvs) H1 Q E) : tCall sp dvs E t σ H Q := h
theorem r_CB {r : List V → Hp → VK → Prop} {t : TA} (h : t σ H fun vs H1 => r vs H1 Q) : tCB r t σ H Q := h
theorem r_ixL {p : Addr} {xs : List V} {i : Int} {v : V} (hs : SqL K H p xs) (e : atI xs i = some v) (h : Q v H) : rIxL K (.ref p) (.int i) H Q := ⟨p, xs, i, v, rfl, rfl, hs, e, h⟩
theorem r_ixT {p : Addr} {xs : List V} {i : Int} {v : V} (hs : SqT K H p xs) (e : atI xs i = some v) (h : Q v H) : rIxT K (.ref p) (.int i) H Q := ⟨p, xs, i, v, rfl, rfl, hs, e, h⟩
theorem r_ite {p : Prop} [Decidable p] {A B : Prop} (h1 : p → A) (h2 : ¬ p → B) : if decide p = true then A else B := by
  by_cases c : p
  · rw [if_pos (decide_eq_true c)]
    exact h1 c
  · rw [if_neg (by simp [c])]
    exact h2 c
theorem r_iten {p : Prop} [Decidable p] {A B : Prop} (h1 : ¬ p → A) (h2 : p → B) : if (!decide p) = true then A else B := by
  by_cases c : p
  · rw [if_neg (by simp [c])]
    exact h2 c
  · rw [if_pos (by simp [c])]
    exact h1 c
theorem r_itep {p : Prop} [Decidable p] {A B : Prop} (c : p) (h : A) : if decide p = true then A else B := by
  rw [if_pos (decide_eq_true c)]
  exact h
theorem r_iteN {p : Prop} [Decidable p] {A B : Prop} (c : ¬ p) (h : B) : if decide p = true then A else B := by
  rw [if_neg (by simp [c])]
  exact h
theorem r_iteF {A B : Prop} (h : B) : if false = true then A else B := by
  rw [if_neg Bool.false_ne_true]
  exact h
theorem r_iteT {A B : Prop} (h : A) : if true = true then A else B := by
  rw [if_pos rfl]
  exact h
theorem r_iteNT {A B : Prop} (h : B) : if (!true) = true then A else B := by
  rw [if_neg (by decide)]
  exact h
theorem r_iteNF {A B : Prop} (h : A) : if (!false) = true then A else B := by
  rw [if_pos (by decide)]
  exact h
theorem r_no {p : Prop} [Decidable p] {A B : Prop} (c : p) (h : B) : if (!decide p) = true then A else B := by
  rw [if_neg (by simp [c])]
  exact h
/-- a for over a written range(m) -/
theorem r_forN {v : Int} {g : TG} {tb : TS} (m : Nat) (e : v = (m : Int)) (hn : m < 2 ^ 62) (Pv : Nat → St → Hp → Prop) (h0 : Pv 0 σ H)
    (hs : ∀ (i : Nat) σ H, i < m → Pv i σ H → g (.int (i : Int)) σ H fun σ2 H2 => tb ⟨Pv (i + 1), r, n, Pv (i + 1)⟩ σ2 H2) (hd : ∀ σ H, Pv m σ H → n σ H) : tFor (iRng1 (tCons (tC (.int v)) tNil)) g tb ⟨n, r, b, c⟩ σ H := by
  subst e
  refine ⟨(m : Int), rfl, by omega, by omega, for_range Pv h0 (fun i σ H hi p => ?_) hd⟩
  rw [Int.zero_add]
  exact hs i σ H (by omega) p
/-- a for over range(v), v in a slot -/
theorem r_forV {v : Int} {k : Nat} {g : TG} {tb : TS} (e : σ[k]? = some (some (.int v))) (h1 : -(2 ^ 62) ≤ v) (h2 : v < 2 ^ 62) (Pv : Nat → St → Hp → Prop) (h0 : Pv 0 σ H)
    (hs : ∀ (i : Nat) σ H, (i : Int) < v → Pv i σ H → g (.int (i : Int)) σ H fun σ2 H2 => tb ⟨Pv (i + 1), r, n, Pv (i + 1)⟩ σ2 H2) (hd : ∀ σ H, Pv v.toNat σ H → n σ H) : tFor (iRng1 (tCons (tVar k) tNil)) g tb ⟨n, r, b, c⟩ σ H := by
  refine ⟨_, e, v, rfl, h1, h2, for_range Pv h0 (fun i σ H hi p => ?_) hd⟩
  rw [Int.zero_add]
  exact hs i σ H (by omega) p
/-- a for over range(e), the turns behind its reading -/
theorem r_for {wi : TI} {g : TG} {tb : TS} (h : wi σ H fun J H1 => ∃ W : Nat → Nat → St → Hp → Prop, (∃ m, W 0 m σ H1) ∧ ∀ i m σ H, W i m σ H →
    (J.stop i H ∧ n σ H) ∨ (J.go i H ∧ ∃ N : St → Hp → Prop, (∀ σ' H', N σ' H' → ∃ m', m' < m ∧ W (i + 1) m' σ' H') ∧ ∀ x H', J.yld i H x H' → g x σ H' fun σ2 H2 => tb ⟨N, r, n, N⟩ σ2 H2)) : tFor wi g tb ⟨n, r, b, c⟩ σ H := h
theorem r_rng1 {ta : TA} {R : It → Hp → Prop} (h : ta σ H fun vs H1 => ∃ j : Int, vs = [.int j] ∧ -(2 ^ 62) ≤ j ∧ j < 2 ^ 62 ∧ R (Itr 0 j.toNat) H1) : iRng1 ta σ H R := h
/-- .. the turns -/
theorem r_turns {j : Int} {g : TG} {tb : TS} (h1 : -(2 ^ 62) ≤ j) (h2 : j < 2 ^ 62) (Pv : Nat → St → Hp → Prop) (h0 : Pv 0 σ H)
    (hs : ∀ (i : Nat) σ H, (i : Int) < j → Pv i σ H → g (.int (i : Int)) σ H fun σ2 H2 => tb ⟨Pv (i + 1), r, n, Pv (i + 1)⟩ σ2 H2) (hd : ∀ σ H, Pv j.toNat σ H → n σ H) :
    -(2 ^ 62) ≤ j ∧ j < 2 ^ 62 ∧ ∃ W : Nat → Nat → St → Hp → Prop, (∃ m, W 0 m σ H) ∧ ∀ i m σ H, W i m σ H →
    ((Itr 0 j.toNat).stop i H ∧ n σ H) ∨ ((Itr 0 j.toNat).go i H ∧ ∃ N : St → Hp → Prop, (∀ σ' H', N σ' H' → ∃ m', m' < m ∧ W (i + 1) m' σ' H') ∧ ∀ x H', (Itr 0 j.toNat).yld i H x H' → g x σ H' fun σ2 H2 => tb ⟨N, r, n, N⟩ σ2 H2) := by
  refine ⟨h1, h2, for_range (D := ⟨n, r, fun _ _ => False, fun _ _ => False⟩) Pv h0 (fun i σ H hi p => ?_) hd⟩
  rw [Int.zero_add]
  exact hs i σ H (by omega) p
theorem r_while {e : TT} {tb : TS} (W : Nat → St → Hp → Prop) (m : Nat) (h0 : W m σ H)
    (hs : ∀ m σ H, W m σ H → e σ H fun k H1 => if k = true then ∃ N : St → Hp → Prop, (∀ σ' H', N σ' H' → ∃ m', m' < m ∧ W m' σ' H') ∧ tb ⟨N, r, n, N⟩ σ H1 else n σ H1) : tWhile e tb ⟨n, r, b, c⟩ σ H := ⟨W, ⟨m, h0⟩, hs⟩
theorem r_turn {tb : TS} {W : Nat → St → Hp → Prop} {m : Nat} (h : tb ⟨fun σ' H' => ∃ m', m' < m ∧ W m' σ' H', r, n, fun σ' H' => ∃ m', m' < m ∧ W m' σ' H'⟩ σ H) :
    ∃ N : St → Hp → Prop, (∀ σ' H', N σ' H' → ∃ m', m' < m ∧ W m' σ' H') ∧ tb ⟨N, r, n, N⟩ σ H := ⟨_, fun _ _ h => h, h⟩
end
/-! ### promises by the number of arguments -/
def sp1 (f : V → Hp → VK → XK → Prop) : Sp := fun vs H Q E => ∃ a, vs = [a] ∧ f a H Q E
def sp2 (f : V → V → Hp → VK → XK → Prop) : Sp := fun vs H Q E => ∃ a b, vs = [a, b] ∧ f a b H Q E
def sp3 (f : V → V → V → Hp → VK → XK → Prop) : Sp := fun vs H Q E => ∃ a b c, vs = [a, b, c] ∧ f a b c H Q E
def sp4 (f : V → V → V → V → Hp → VK → XK → Prop) : Sp := fun vs H Q E => ∃ a b c d, vs = [a, b, c, d] ∧ f a b c d H Q E
def sp5 (f : V → V → V → V → V → Hp → VK → XK → Prop) : Sp := fun vs H Q E => ∃ a b c d e, vs = [a, b, c, d, e] ∧ f a b c d e H Q E
def sp6 (f : V → V → V → V → V → V → Hp → VK → XK → Prop) : Sp := fun vs H Q E => ∃ a b c d e g, vs = [a, b, c, d, e, g] ∧ f a b c d e g H Q E
theorem len5 {f} (vs : List V) (H : Hp) (Q : VK) (E : XK) (h : sp5 f vs H Q E) : vs.length = 5 := by
  obtain ⟨_, _, _, _, _, rfl, _⟩ := h
  rfl
theorem len6 {f} (vs : List V) (H : Hp) (Q : VK) (E : XK) (h : sp6 f vs H Q E) : vs.length = 6 := by
  obtain ⟨_, _, _, _, _, _, rfl, _⟩ := h
  rfl
theorem len1 {f} (vs : List V) (H : Hp) (Q : VK) (E : XK) (h : sp1 f vs H Q E) : vs.length = 1 := by
  obtain ⟨_, rfl, _⟩ := h
  rfl
theorem len2 {f} (vs : List V) (H : Hp) (Q : VK) (E : XK) (h : sp2 f vs H Q E) : vs.length = 2 := by
  obtain ⟨_, _, rfl, _⟩ := h
  rfl
theorem len3 {f} (vs : List V) (H : Hp) (Q : VK) (E : XK) (h : sp3 f vs H Q E) : vs.length = 3 := by
  obtain ⟨_, _, _, rfl, _⟩ := h
  rfl
theorem len4 {f} (vs : List V) (H : Hp) (Q : VK) (E : XK) (h : sp4 f vs H Q E) : vs.length = 4 := by
  obtain ⟨_, _, _, _, rfl, _⟩ := h
  rfl
/-- a def's promise from its body -/
theorem calD {P : Program} {w : World} {K : PySem.W.Frag} {mg : Str → Option Value} {base : Heap} {x qual : Str} {params : Arguments} {body : List Stmt} {scope : Scope} {f : Addr} {fd : FuncData} {N ps : List Str} {k : Nat} {sp : Sp}
    (F : FunD K x qual params body scope [] [] f fd) (m : mg x = some (.ref f)) (S : FnScope N ps scope)
    (hb : ∀ (kV doc pm : Value) (an : Option Addr) (cdv ct : Value) (us : List Value), us.length = ps.length → bindArgs (PySem.W.fnOf x qual params body scope .none kV doc pm an cdv ct) ⟨us, []⟩ = pure (ps.zip us))
    (len : ∀ vs H Q E, sp vs H Q E → vs.length = ps.length)
    (hbody : ∀ (cdv : Value) (A : Around) (outer : List Env) (s : Shared) (H : Hp) (vs : List V) (Q : VK) (E : XK), Room k (A.deeper (envOfC qual scope s.heap.objs.size f cdv)) → sp vs H Q E →
      ∃ t, PSs (cxOf CX0 P w K mg base N qual scope f cdv A outer s H E).nox body t ∧ t { nx := fun _ H' => Q .non H', rt := Q } (start N vs) H) : Cal P w K mg base (k + 1) x sp [] :=
  ⟨f, fd, ps, [], F.ok S len fun cdv A outer s H vs Q E hr h => by
    obtain ⟨t, h1, h2⟩ := hbody cdv A outer s H vs Q E hr h
    exact ⟨t, h1.nox, h2⟩, m, F.kp, F.bindsN hb, .nil⟩
theorem fnD {P : Program} {w : World} {K : PySem.W.Frag} {mg : Str → Option Value} {base : Heap} {x qual : Str} {params : Arguments} {body : List Stmt} {scope : Scope} {f : Addr} {fd : FuncData} {N ps : List Str} {k : Nat} {sp : Sp}
    (F : FunD K x qual params body scope [] [] f fd) (S : FnScope N ps scope) (len : ∀ vs H Q E, sp vs H Q E → vs.length = ps.length)
    (hbody : ∀ (cdv : Value) (A : Around) (outer : List Env) (s : Shared) (H : Hp) (vs : List V) (Q : VK) (E : XK), Room k (A.deeper (envOfC qual scope s.heap.objs.size f cdv)) → sp vs H Q E →
      ∃ t, PSs (cxOf CX0 P w K mg base N qual scope f cdv A outer s H E).nox body t ∧ t { nx := fun _ H' => Q .non H', rt := Q } (start N vs) H) : FnOk P w K mg base CX0 (k + 1) f fd ps sp :=
  F.ok S len fun cdv A outer s H vs Q E hr h => by
    obtain ⟨t, h1, h2⟩ := hbody cdv A outer s H vs Q E hr h
    exact ⟨t, h1.nox, h2⟩
theorem conI {K : PySem.W.Frag} {h : Heap} {mg : Str → Option Value} {x : Str} {i : Int} (X : K.In h) (G : h.Ns mainGlobals mg) (c : (He.Fa.int x i).ok K = true) : ∃ u, mg x = some u ∧ RelV (.int i) u := by
  obtain ⟨t, e⟩ := He.int_ok X G c
  exact ⟨_, e, t, rfl⟩
theorem conS {K : PySem.W.Frag} {h : Heap} {mg : Str → Option Value} {x z : Str} (X : K.In h) (G : h.Ns mainGlobals mg) (c : (He.Fa.str x z).ok K = true) : ∃ u, mg x = some u ∧ RelV (.str z) u := by
  obtain ⟨t, e⟩ := He.str_ok X G c
  exact ⟨_, e, t, rfl⟩

/-! ### more readings -/
section
variable {σ : St} {H : Hp} {n b c : St → Hp → Prop} {r : VK} {Q : VK}
theorem r_cut {t u : TS} (Mid : St → Hp → Prop) (h1 : t ⟨Mid, r, b, c⟩ σ H) (h2 : ∀ σ' H', Mid σ' H' → u ⟨n, r, b, c⟩ σ' H') : tCut t u ⟨n, r, b, c⟩ σ H := ⟨Mid, h1, h2⟩
end
section
variable {σ : St} {H : Hp} {Q : VK} {K : PySem.W.Frag}
theorem r_yes {R : Bool → Hp → Prop} (h : R true H) : tYes σ H R := h
theorem r_isi {x : V} {c d : String} {b : Bool} (t : TyX K H x (.type d)) (e : kitB d c = some b) (h : Q (.bl b) H) : rIsi K [x, .ty c] H Q := ⟨x, .ty c, .type d, .type c, b, rfl, .ty c, t, kit_ty e, h⟩
theorem r_neD {x y : V} {d e : PyData} (h1 : Dp K H x d) (h2 : Dp K H y e) (s1 : SeqAt.shaped d = true) (s2 : SeqAt.shaped e = true) (h : Q (.bl (!PyData.eqv d e)) H) : rNeD K x y H Q := ⟨d, e, h1, h2, s1, s2, h⟩
theorem r_eqD {x y : V} {d e : PyData} (h1 : Dp K H x d) (h2 : Dp K H y e) (s1 : SeqAt.shaped d = true) (s2 : SeqAt.shaped e = true) (h : Q (.bl (PyData.eqv d e)) H) : rEqD K x y H Q := ⟨d, e, h1, h2, s1, s2, h⟩
theorem eqv_same {d : PyData} (s : SeqAt.shaped d = true) : PyData.eqv d d = true := SeqAt.eqv_refl d (Bool.and_eq_true_iff.mp s).1
/-- the same data on both sides -/
theorem r_neDs {x y : V} {d : PyData} (h1 : Dp K H x d) (h2 : Dp K H y d) (s : SeqAt.shaped d = true) (h : Q (.bl false) H) : rNeD K x y H Q := r_neD h1 h2 s s (by rw [eqv_same s]; exact h)
theorem r_eqDs {x y : V} {d : PyData} (h1 : Dp K H x d) (h2 : Dp K H y d) (s : SeqAt.shaped d = true) (h : Q (.bl true) H) : rEqD K x y H Q := r_eqD h1 h2 s s (by rw [eqv_same s]; exact h)
theorem r_rfl {v : V} {B : Prop} (h : B) : v = v ∧ B := ⟨rfl, h⟩
theorem r_gtup {p : Addr} {xs : List V} {n : Nat} {t : TGs} {R : St → Hp → Prop} (hs : SqT K H p xs) (hl : xs.length = n) (h : t xs σ H R) : gTup K n t (.ref p) σ H R := ⟨p, xs, rfl, hs, hl, h⟩
theorem r_gcons {t : TG} {u : TGs} {v : V} {vs : List V} {R : St → Hp → Prop} (h : t v σ H fun σ' H' => u vs σ' H' R) : gCons t u (v :: vs) σ H R := ⟨v, vs, rfl, h⟩
theorem r_gnil {R : St → Hp → Prop} (h : R σ H) : gNil [] σ H R := ⟨rfl, h⟩
theorem r_iteC {p : Prop} [Decidable p] {a b : Int} (h : Q (.int (if p then a else b)) H) : if decide p = true then tC (.int a) σ H Q else tC (.int b) σ H Q := by
  by_cases c : p
  · rw [if_pos (decide_eq_true c)]
    rw [if_pos c] at h
    exact h
  · rw [if_neg (by simp [c])]
    rw [if_neg c] at h
    exact h
theorem r_iteJ {p : Prop} [Decidable p] {ta tb : TE} (v : V) (h1 : p → ∀ R : VK, R v H → ta σ H R) (h2 : ¬ p → ∀ R : VK, R v H → tb σ H R) (h : Q v H) : if decide p = true then ta σ H Q else tb σ H Q := by
  by_cases c : p
  · rw [if_pos (decide_eq_true c)]
    exact h1 c Q h
  · rw [if_neg (by simp [c])]
    exact h2 c Q h
theorem r_max2 {p : Addr} {x y : Int} (hs : H p = some (.lst [.int x, .int y])) (h : Q (.int (max x y)) H) : rMax K [.ref p] H Q := by
  refine ⟨p, [x, y], rfl, SqL.of hs, by show 0 < 2; decide, fun m hm hle => ?_⟩
  have h1 := hle x (by simp)
  have h2 := hle y (by simp)
  have e : m = max x y := by
    rcases List.mem_cons.mp hm with e | e
    · omega
    · rcases List.mem_cons.mp e with e | e
      · omega
      · cases e
  rw [e]
  exact h
theorem r_lam1 {x : V} {R : V → Prop} (h : R x) : ∃ i, [x] = [i] ∧ R i := ⟨x, rfl, h⟩
theorem r_abs {x : Int} {R : Int → Prop} (h : R x) : ∃ i, [V.int x] = [V.int i] ∧ R i := ⟨x, rfl, h⟩
theorem r_int1 {x : Int} {R : Int → Prop} {B : Prop} (h : R x) : (∃ i, [V.int x] = [V.int i] ∧ R i) ∨ B := .inl ⟨x, rfl, h⟩
theorem r_bm {T : String} {r : V → List V → Hp → VK → Prop} {to : TE} {t : TA} (h : to σ H fun x H1 => tyV K T x H1 ∧ t σ H1 fun xs H2 => r x xs H2 Q) : tBM K T r to t σ H Q := h
theorem r_bm0 {T : String} {r : V → List V → Hp → VK → Prop} {to : TE} (h : to σ H fun x H1 => tyV K T x H1 ∧ r x [] H1 Q) : tBM0 K T r to σ H Q := h
theorem tyL {p : Addr} {xs : List V} (h : H p = some (.lst xs)) : tyV K "list" (.ref p) H := Or.inl ⟨rfl, _, SqL.of h⟩
theorem r_app {p : Addr} {xs : List V} {y : V} (h : H p = some (.lst xs)) (hl : xs.length < sizeLine) (q : Q .non (upd H p (.lst (xs ++ [y])))) : rAppend (.ref p) [y] H Q := ⟨p, xs, y, rfl, rfl, h, hl, q⟩
theorem r_sub {to ti : TE} {t : TSet} {v : V} {R : St → Hp → Prop} (h : to σ H fun o H1 => ti σ H1 fun i H2 => t o i v H2 fun H3 => R σ H3) : gSub to ti t v σ H R := h
theorem r_setL {p : Addr} {xs : List V} {k : Int} {j : Nat} {v : V} {R : Hp → Prop} (h : H p = some (.lst xs)) (e : ixN xs.length k = some j) (q : R (upd H p (.lst (xs.set j v)))) : rSetL (.ref p) (.int k) v H R := ⟨p, xs, k, j, rfl, rfl, h, e, q⟩
theorem r_lcR {ta : TA} {g : TG} {tt : TT} {te : TE} {vs : List Nat} (n : Nat) (hn : n < 2 ^ 62)
    (h : ∀ D, H D = none → ∃ W : Nat → Nat → Hp → Prop, (∃ m, W 0 m (upd H D (.lst []))) ∧ ∀ i m H, W i m H →
      ((Itr 0 n).stop i H ∧ Q (.ref D) H) ∨ ((Itr 0 n).go i H ∧ ∃ Nx : Hp → Prop, (∀ H', Nx H' → ∃ m', m' < m ∧ W (i + 1) m' H') ∧ ∀ x H', (Itr 0 n).yld i H x H' → g x (wipe σ vs) H' fun σ2 H2 => wipe σ2 vs = wipe σ vs ∧ tt σ2 H2 fun b H3 =>
        if b = true then te σ2 H3 fun y H4 => ∃ acc, H4 D = some (.lst acc) ∧ acc.length < sizeLine ∧ Nx (upd H4 D (.lst (acc ++ [y]))) else Nx H3))
    (he : ∀ R : List V → Hp → Prop, R [.int (n : Int)] H → ta σ H R) : tLc (iRng1 ta) g tt te vs σ H Q := by
  refine he _ ⟨(n : Int), rfl, by omega, by omega, ?_⟩
  have e : ((n : Int)).toNat = n := by omega
  rw [e]
  exact h
theorem same_upd {H : Hp} {p : Addr} (h : H p = none) (o : HO) : Same H (upd H p o) := fun b u q => by
  rw [upd_ne (ne_of_none q h)]
  exact q
theorem seq_upd {p b : Addr} {xs : List V} {o : HO} (h : SqL K H b xs) (hn : b ≠ p) : SqL K (upd H p o) b xs := by
  rcases h with (h | ⟨u, h⟩) | h
  · exact .inl (.inl ((upd_ne hn).trans h))
  · exact .inl (.inr ⟨u, (upd_ne hn).trans h⟩)
  · exact .inr h
theorem atI_ints {ns : List Int} {k : Int} (h0 : 0 ≤ k) (h1 : k < (ns.length : Int)) : ∃ v, v ∈ ns ∧ atI (ns.map V.int) k = some (.int v) := by
  have hk : k.toNat < ns.length := by omega
  have ek : k = ((k.toNat : Nat) : Int) := by omega
  have q : atI (ns.map V.int) ((k.toNat : Nat) : Int) = some (.int ns[k.toNat]) := atI_nat (by rw [List.getElem?_map, List.getElem?_eq_getElem hk] <;> rfl)
  rw [← ek] at q
  exact ⟨ns[k.toNat], List.getElem_mem hk, q⟩
end

/-! ### what the program's top leaves, looked at: its defs by their addresses, facts, written data; the statics too -/
abbrev Frg := PySem.W.Frag
/-- the getter of a property of a class -/
def prAd (C f : Str) (K : Frg) : Addr := match PySem.W.recIn K (He.ma K (He.ga K C) f) "property" with
  | some (.ref g :: _) => g
  | _ => 0
def glAd (x : Str) (K : Frg) : Addr := He.ga K x
def meAd (C m : Str) (K : Frg) : Addr := He.ma K (He.ga K C) m
structure DefM where
  ad : Frg → Addr
  nm : Str
  ql : Str
  pa : Arguments
  bo : List Stmt
  sc : Scope
  df : List He.Dv := []
def seeM (K : Frg) (d : DefM) : He.FnW := match K.lookup (d.ad K) with
  | some ⟨_, _, .func u, _⟩ => some (u.name, u.qualname, u.params, u.body, u.scope, u.globals, u.closure, u.builtins)
  | _ => none
def dueM (d : DefM) : He.FnW := some (d.nm, d.ql, d.pa, .stmts d.bo, d.sc, mainGlobals, [], builtinsNs)
def okM (K : Frg) (d : DefM) : Bool := PySem.W.keepIn K (.ref (d.ad K)) && (match K.lookup (d.ad K) with
  | some ⟨_, _, .func u, _⟩ => PySem.W.codeIn K u.code d.ql && He.dflB K u.defaults (d.df.map (He.Dv.v K))
  | _ => false)
theorem both {a b : Bool} (h : (a && b) = true) : a = true ∧ b = true := Bool.and_eq_true_iff.mp h
theorem funM {K : Frg} {d : DefM} (e : seeM K d = dueM d) (c : okM K d = true) : ∃ fd, FunD K d.nm d.ql d.pa d.bo d.sc (d.df.map (He.Dv.v K)) [] (d.ad K) fd := by
  have kp := (both c).1
  have c2 := (both c).2
  unfold seeM dueM at e
  split at c2
  · rename_i x1 x2 u x3 hL
    rw [hL] at e
    obtain ⟨n1, n2, n3, n4, n5, n6, n7, n8, n9, n10, n11, n12, n13, n14, n15⟩ := u
    simp only [Option.some.injEq, Prod.mk.injEq] at e
    obtain ⟨h1, h2, h3, h4, h5, h6, h7, h8⟩ := e
    subst h1 h2 h3 h4 h5 h6 h7 h8
    have k := both c2
    exact ⟨_, ⟨x1, x2, n8, n9, n10, n11, n12, n13, n14, x3, rfl, hL, k.1, He.dflB_ok k.2, .inl rfl⟩, kp⟩
  · cases c2
/-- written data: none, truths, integers, texts, lists and tuples of them -/
def datB (K : Frg) : Nat → Value → PyData → Bool
  | 0, _, _ => false
  | n + 1, u, d => match u, d with
    | .none, .none => true
    | .bool b, .bool c => b == c
    | .int i _, .int j => decide (i = j)
    | .str x _, .str y => decide (x = y)
    | .ref a, .tuple ds => (match K.lookup a with
      | some ⟨.type c, _, .seq its _, _⟩ => decide (c = "tuple") && (decide (its.size ≤ sizeLine) && datAll (fun u d => datB K n u d) its.toList ds)
      | _ => false)
    | _, _ => false
where datAll (f : Value → PyData → Bool) : List Value → List PyData → Bool
  | [], [] => true
  | u :: us, d :: ds => f u d && datAll f us ds
  | _, _ => false
theorem datAll_ok {K : Frg} {f : Value → PyData → Bool} (hf : ∀ u d, f u d = true → ∃ x, RelV x u ∧ ∀ H, Dp K H x d) : ∀ (us : List Value) (ds : List PyData), datB.datAll f us ds = true → ∃ xs, Vals xs us ∧ ∀ H, DpAll K H xs ds
  | [], [], _ => ⟨[], .nil, fun _ => .nil⟩
  | u :: us, d :: ds, h => by
    unfold datB.datAll at h
    obtain ⟨x, r, k⟩ := hf u d (both h).1
    obtain ⟨xs, rs, ks⟩ := datAll_ok hf us ds (both h).2
    exact ⟨x :: xs, .cons r rs, fun H => .cons (k H) (ks H)⟩
  | [], _ :: _, h => by cases h
  | _ :: _, [], h => by cases h
theorem datB_ok {K : Frg} : ∀ (n : Nat) (u : Value) (d : PyData), datB K n u d = true → ∃ x, RelV x u ∧ ∀ H, Dp K H x d
  | 0, _, _, h => by cases h
  | n + 1, u, d, h => by
    unfold datB at h
    match u, d, h with
    | .none, .none, _ => exact ⟨.non, rfl, fun _ => .non⟩
    | .bool b, .bool c, h =>
      have e : b = c := eq_of_beq h
      subst e
      exact ⟨.bl b, rfl, fun _ => .bl b⟩
    | .int i t, .int j, h =>
      have e : i = j := of_decide_eq_true h
      subst e
      exact ⟨.int i, ⟨t, rfl⟩, fun _ => .int i⟩
    | .str x t, .str y, h =>
      have e : x = y := of_decide_eq_true h
      subst e
      exact ⟨.str x, ⟨t, rfl⟩, fun _ => .str x⟩
    | .ref a, .tuple ds, h =>
      have h' : (match K.lookup a with
        | some ⟨.type c, _, .seq its _, _⟩ => decide (c = "tuple") && (decide (its.size ≤ sizeLine) && datB.datAll (fun u d => datB K n u d) its.toList ds)
        | _ => false) = true := h
      split at h'
      · rename_i c x2 its m x3 hL
        have h1 := (both h').1
        have h2 := (both (both h').2).1
        obtain ⟨xs, rs, ks⟩ := datAll_ok (datB_ok n) its.toList ds (both (both h').2).2
        exact ⟨.ref a, rfl, fun H => .tup (.inr ⟨_, its, m, hL, congrArg Value.type (of_decide_eq_true h1), rfl, of_decide_eq_true h2, rs⟩) (ks H)⟩
      · cases h'
/-- a name of the module that stands for such data -/
def conB (K : Frg) (x : Str) (d : PyData) : Bool := match PySem.W.nsIn K mainGlobals x with
  | some (some u) => datB K 8 u d
  | _ => false
theorem conM {K : Frg} {h : Heap} {mg : Str → Option Value} {x : Str} {d : PyData} (X : K.In h) (G : h.Ns mainGlobals mg) (c : conB K x d = true) : ∃ v u, mg x = some u ∧ RelV v u ∧ ∀ H, Dp K H v d := by
  unfold conB at c
  split at c
  · rename_i u hL
    obtain ⟨v, r, k⟩ := datB_ok 8 u d c
    exact ⟨v, u, PySem.W.mg_of X G hL, r, k⟩
  · cases c
/-- a property of a class -/
def prB (K : Frg) (C f : Str) : Bool := He.eqO (PySem.W.findIn K (.ref (He.ga K C)) f) (some (some (.ref (He.ma K (He.ga K C) f)))) &&
  (He.eqO (PySem.W.specialIn K (.ref (He.ma K (He.ga K C) f)) "__get__") (some (some (.builtin "property.__get__"))) && (decide (PySem.W.takesIn K (.ref (He.ma K (He.ga K C) f)) = some true) &&
  (match PySem.W.recIn K (He.ma K (He.ga K C) f) "property" with
    | some (.ref _ :: _) => true
    | _ => false)))
theorem prM {K : Frg} {C f : Str} (h : prB K C f = true) : PropOf K (He.ga K C) f (He.ma K (He.ga K C) f) (prAd C f K) := by
  obtain ⟨h1, h⟩ := both h
  obtain ⟨h2, h⟩ := both h
  obtain ⟨h3, h4⟩ := both h
  refine ⟨He.eqO_ok h1, He.eqO_ok h2, of_decide_eq_true h3, ?_⟩
  unfold prAd
  split at h4
  · rename_i g r hL
    rw [hL]
    exact ⟨r, rfl⟩
  · cases h4
/-- no limit of digits is set -/
def digB (K : Frg) : Bool := He.eqO (PySem.W.nsIn K cStatics "sys.int_max_str_digits") (some none)
/-! the Hook -/
abbrev AlM : Type := Bool × List He.FnW
def frM (n : Nat) (g : Addr → Option Obj) : Frg := He.frG g (cStatics :: He.asD g n)
def obsM (fa : List He.Fa) (ex : Frg → Bool) (fn : List DefM) (K : Frg) : AlM := ((fa.all fun x => x.ok K) && (ex K && fn.all fun d => okM K d), fn.map fun d => seeM K d)
def valM (fn : List DefM) : AlM := (true, fn.map dueM)
def SaysM (fa : List He.Fa) (ex : Frg → Bool) (fn : List DefM) (K : Frg) : Prop := obsM fa ex fn K = valM fn
def hookM (n : Nat) (fa : List He.Fa) (ex : Frg → Bool) (fn : List DefM) : PySem.W.Hook where
  α := AlM
  obs := fun s => obsM fa ex fn (frM n s.heap.get?)
  val := fun _ => valM fn
  says := fun _ h => ∃ K : Frg, K.In h ∧ SaysM fa ex fn K
  of := fun _ _ e => ⟨_, He.frG_in, e⟩
  keeps := fun _ _ _ ⟨K, hK, c⟩ k => ⟨K, PySem.W.Frag.In.keeps hK k, c⟩
theorem obsM_eq {n : Nat} {fa : List He.Fa} {ex : Frg → Bool} {fn : List DefM} {g : Addr → Option Obj} {s : Shared} (h : ∀ a, g a = s.heap.get? a) : obsM fa ex fn (frM n g) = (hookM n fa ex fn).obs s := by
  have e : g = s.heap.get? := funext h
  subst e
  rfl
section
variable {fa : List He.Fa} {ex : Frg → Bool} {fn : List DefM} {K : Frg}
theorem SaysM.fact (c : SaysM fa ex fn K) (i : Nat) {x : He.Fa} (h : fa[i]? = some x) : x.ok K = true :=
  List.all_eq_true.mp (both (congrArg Prod.fst c : ((fa.all fun x => x.ok K) && (ex K && fn.all fun d => okM K d)) = true)).1 x (List.mem_of_getElem? h)
theorem SaysM.more (c : SaysM fa ex fn K) : ex K = true := (both (both (congrArg Prod.fst c : ((fa.all fun x => x.ok K) && (ex K && fn.all fun d => okM K d)) = true)).2).1
theorem SaysM.def_ (c : SaysM fa ex fn K) (i : Nat) {d : DefM} (h : fn[i]? = some d) : ∃ fd, FunD K d.nm d.ql d.pa d.bo d.sc (d.df.map (He.Dv.v K)) [] (d.ad K) fd := by
  have c2 := (both (both (congrArg Prod.fst c : ((fa.all fun x => x.ok K) && (ex K && fn.all fun d => okM K d)) = true)).2).2
  have e2 : (fn.map fun d => seeM K d)[i]? = (fn.map dueM)[i]? := congrArg (fun z : AlM => z.2[i]?) c
  simp only [List.getElem?_map, h, Option.map_some, Option.some.injEq] at e2
  exact funM e2 (List.all_eq_true.mp c2 d (List.mem_of_getElem? h))
end

/-! ### own classes: made, their fields and methods -/
theorem lk_hit (k : Str) (v : V) (r : List (Str × V)) : List.lookup k ((k, v) :: r) = some v := by simp [List.lookup]
theorem lk_miss {k a : Str} {v : V} {r : List (Str × V)} (h : (a == k) = false) : List.lookup a ((k, v) :: r) = List.lookup a r := by
  show (match a == k with
    | true => some v
    | false => List.lookup a r) = _
  rw [h]
theorem pf_nil (k : Str) (v : V) : putF k v [] = [(k, v)] := rfl
theorem pf_hit (k : Str) (v x : V) (r : List (Str × V)) : putF k v ((k, x) :: r) = (k, v) :: r := if_pos rfl
theorem pf_miss {k g : Str} {v x : V} {r : List (Str × V)} (h : ¬ g = k) : putF k v ((g, x) :: r) = (g, x) :: putF k v r := if_neg h
section
variable {X : Cx} {k j : Nat} {C : Addr} {x m : Str} {sp : Sp} {dvs : List V} {p pos apos : Pos} {e o : Expr} {es : List Expr} {ta : TE} {t : TA}
theorem pe_mk0 (c : Mak X.prog X.w X.K X.mg X.base k x C sp dvs) (hr : Room j X.A) (hk : k + 1 ≤ j) (hg : Gl X x) (hdb : (x == ("__debug__" : Str)) = false := by decide) : PE X (.Call (.Name x p) [] [] pos) (tMake C sp dvs C8.E0 tNil) := by
  obtain ⟨_, _, _, _, M, F, hm, b, d⟩ := c.ex
  exact pe_make0 M F (hr.mono hk) hg hm b d pass0 hdb
/-- a property of the class at C -/
structure Prp (P : Program) (w : World) (K : Frg) (mg : Str → Option Value) (base : Heap) (k : Nat) (C : Addr) (f : Str) (sp : Sp) : Prop where
  ex : ∃ (q g : Addr) (fd : FuncData) (ps : List Str), Cls K C ∧ PropOf K C f q g ∧ FnOk P w K mg base CX0 k g fd ps sp ∧ Binds K fd ps []
theorem pe_pr {f : Str} (c : Prp X.prog X.w X.K X.mg X.base k C f sp) (hr : Room j X.A) (hk : k + 1 ≤ j) (he : PE X o ta) (hab : attributeBase o f X.env (eval o X.env) = eval o X.env := by rfl) : PE X (.Attribute o f pos) (tProp C sp [] C8.E0 ta) := by
  obtain ⟨_, _, _, _, cl, q, F, b⟩ := c.ex
  exact pe_prop he cl q F (hr.mono hk) b .nil pass0 hab
end
section
variable {P : Program} {w : World} {K : Frg} {mg : Str → Option Value} {base : Heap} {x qual : Str} {params : Arguments} {body : List Stmt} {scope : Scope} {f : Addr} {fd : FuncData} {N ps : List Str} {k : Nat} {sp : Sp} {C : Addr}
theorem metD (F : FunD K x qual params body scope [] [] f fd) (cl : Cls K C) (me : Meth K C x f) (S : FnScope N ps scope)
    (hb : ∀ (kV doc pm : Value) (an : Option Addr) (cdv ct : Value) (us : List Value), us.length = ps.length → bindArgs (PySem.W.fnOf x qual params body scope .none kV doc pm an cdv ct) ⟨us, []⟩ = pure (ps.zip us))
    (len : ∀ vs H Q E, sp vs H Q E → vs.length = ps.length)
    (hbody : ∀ (cdv : Value) (A : Around) (outer : List Env) (s : Shared) (H : Hp) (vs : List V) (Q : VK) (E : XK), Room k (A.deeper (envOfC qual scope s.heap.objs.size f cdv)) → sp vs H Q E →
      ∃ t, PSs (cxOf CX0 P w K mg base N qual scope f cdv A outer s H E).nox body t ∧ t { nx := fun _ H' => Q .non H', rt := Q } (start N vs) H) : Met P w K mg base (k + 1) C x sp [] :=
  ⟨f, fd, ps, [], cl, me, fnD F S len hbody, F.bindsN hb, .nil⟩
theorem makD {y : Str} (F : FunD K x qual params body scope [] [] f fd) (M : Mk K C f) (m : mg y = some (.ref C)) (S : FnScope N ps scope)
    (hb : ∀ (kV doc pm : Value) (an : Option Addr) (cdv ct : Value) (us : List Value), us.length = ps.length → bindArgs (PySem.W.fnOf x qual params body scope .none kV doc pm an cdv ct) ⟨us, []⟩ = pure (ps.zip us))
    (len : ∀ vs H Q E, sp vs H Q E → vs.length = ps.length)
    (hbody : ∀ (cdv : Value) (A : Around) (outer : List Env) (s : Shared) (H : Hp) (vs : List V) (Q : VK) (E : XK), Room k (A.deeper (envOfC qual scope s.heap.objs.size f cdv)) → sp vs H Q E →
      ∃ t, PSs (cxOf CX0 P w K mg base N qual scope f cdv A outer s H E).nox body t ∧ t { nx := fun _ H' => Q .non H', rt := Q } (start N vs) H) : Mak P w K mg base (k + 1) y C sp [] :=
  ⟨f, fd, ps, [], M, fnD F S len hbody, m, F.bindsN hb, .nil⟩
theorem prpD {y : Str} {q : Addr} (F : FunD K x qual params body scope [] [] f fd) (cl : Cls K C) (pr : PropOf K C y q f) (S : FnScope N ps scope)
    (hb : ∀ (kV doc pm : Value) (an : Option Addr) (cdv ct : Value) (us : List Value), us.length = ps.length → bindArgs (PySem.W.fnOf x qual params body scope .none kV doc pm an cdv ct) ⟨us, []⟩ = pure (ps.zip us))
    (len : ∀ vs H Q E, sp vs H Q E → vs.length = ps.length)
    (hbody : ∀ (cdv : Value) (A : Around) (outer : List Env) (s : Shared) (H : Hp) (vs : List V) (Q : VK) (E : XK), Room k (A.deeper (envOfC qual scope s.heap.objs.size f cdv)) → sp vs H Q E →
      ∃ t, PSs (cxOf CX0 P w K mg base N qual scope f cdv A outer s H E).nox body t ∧ t { nx := fun _ H' => Q .non H', rt := Q } (start N vs) H) : Prp P w K mg base (k + 1) C y sp :=
  ⟨q, f, fd, ps, cl, pr, fnD F S len hbody, F.bindsN hb⟩
end
section
variable {σ : St} {H : Hp} {n b c : St → Hp → Prop} {r : VK} {Q : VK} {K : Frg} {a C dx : Addr} {fs : List (Str × V)} {f : Str} {v : V}
theorem r_fld {te : TE} (h : te σ H fun x H1 => ∃ a C dx fs v, x = .ref a ∧ H1 a = some (.ins C dx fs) ∧ Cls K C ∧ NoAttr K C f ∧ fs.lookup f = some v ∧ Q v H1) : tFld K te f σ H Q := h
theorem r_fget {R : V → Prop} (h : H a = some (.ins C dx fs)) (cl : Cls K C) (na : NoAttr K C f) (l : fs.lookup f = some v) (q : R v) :
    ∃ a' C dx fs v, V.ref a = .ref a' ∧ H a' = some (.ins C dx fs) ∧ Cls K C ∧ NoAttr K C f ∧ fs.lookup f = some v ∧ R v := ⟨a, C, dx, fs, v, rfl, h, cl, na, l, q⟩
theorem r_sfld {ta tv : TE} (h : tv σ H fun y H1 => ta σ H1 fun x H2 => ∃ a C dx fs, x = .ref a ∧ H2 a = some (.ins C dx fs) ∧ Cls K C ∧ NoAttr K C f ∧ fs.length < 1000 ∧ n σ (upd H2 a (.ins C dx (putF f y fs)))) : sFld K ta tv f ⟨n, r, b, c⟩ σ H := h
theorem r_fset {R : Hp → Prop} {fs' : List (Str × V)} (h : H a = some (.ins C dx fs)) (cl : Cls K C) (na : NoAttr K C f) (hl : fs.length < 1000) (e : putF f v fs = fs') (q : R (upd H a (.ins C dx fs'))) :
    ∃ a' C dx fs, V.ref a = .ref a' ∧ H a' = some (.ins C dx fs) ∧ Cls K C ∧ NoAttr K C f ∧ fs.length < 1000 ∧ R (upd H a' (.ins C dx (putF f v fs))) := ⟨a, C, dx, fs, rfl, h, cl, na, hl, by rw [e]; exact q⟩
theorem r_meth {m : Str} {sp : Sp} {dvs : List V} {E : XK} {ta : TE} {t : TA} (h : ta σ H fun x H1 => ∃ a dx fs, x = .ref a ∧ H1 a = some (.ins C dx fs) ∧ fs.lookup m = none ∧ t σ H1 fun vs H2 => sp (x :: (vs ++ dvs)) H2 Q E) : tMeth C m sp dvs E ta t σ H Q := h
theorem r_mget {m : Str} {R : Prop} (h : H a = some (.ins C dx fs)) (l : fs.lookup m = none) (q : R) : ∃ a' dx fs, V.ref a = .ref a' ∧ H a' = some (.ins C dx fs) ∧ fs.lookup m = none ∧ R := ⟨a, dx, fs, rfl, h, l, q⟩
theorem r_prop {sp : Sp} {dvs : List V} {E : XK} {ta : TE} (h : ta σ H fun x H1 => ∃ a dx fs, x = .ref a ∧ H1 a = some (.ins C dx fs) ∧ sp (.ref a :: dvs) H1 Q E) : tProp C sp dvs E ta σ H Q := h
theorem r_pget {R : Addr → Prop} (h : H a = some (.ins C dx fs)) (q : R a) : ∃ a' dx fs, V.ref a = .ref a' ∧ H a' = some (.ins C dx fs) ∧ R a' := ⟨a, dx, fs, rfl, h, q⟩
theorem r_make {sp : Sp} {dvs : List V} {E : XK} {t : TA} (h : t σ H fun vs H1 => ∀ x dx, H1 x = none → H1 dx = none → dx ≠ x → sp (.ref x :: (vs ++ dvs)) (upd (upd H1 dx (.own x)) x (.ins C dx [])) (fun v H2 => v = .non ∧ Q (.ref x) H2) E) : tMake C sp dvs E t σ H Q := h
end

/-! ### loops over rows -/
section
variable {X : Cx} {tg iter : Expr}
/-- one of two ways to come by an iterator -/
theorem pi_or {u v : TI} (h1 : PI X tg iter u) (h2 : PI X tg iter v) : PI X tg iter (fun σ H R => u σ H R ∨ v σ H R) := by
  refine ⟨fun pins s σ H R I h => ?_⟩
  rcases h with h | h
  · exact h1.run pins s σ H R I h
  · exact h2.run pins s σ H R I h
end
set_option maxHeartbeats 8000000 in
theorem meets_enum1 {v : Value} {o : Obj} {G : Heap → Prop} (B : Begins v o G) :
    Meets (Builtin.«enumerate.__new__» ⟨[.type "enumerate", v], []⟩) (fun _ R s => G s.heap ∧
      R (.ok (.ret (.ref (s.heap.push o).objs.size))) { s with heap := (s.heap.push o).push { cls := .type "enumerate", data := .fields #[.none, .bool false, .ref s.heap.objs.size, rawInt 0, .none, .none] } }) :=
  .of_wp fun prog w A R s h => by
    obtain ⟨hp, g, d, tk, os⟩ := s
    obtain ⟨h1, h⟩ := h
    have hsub := sub_enumerate
    have q1 : ∀ {A' : Around} {E : Value → Shared → Prop} {Q : Value → Shared → Prop}, Q (.ref hp.objs.size) ⟨hp.push o, g, d, tk, os⟩ → wpAny (model prog w) A' (pyIter v) Q E ⟨hp, g, d, tk, os⟩ :=
      fun q => B.iter prog w _ _ ⟨hp, g, d, tk, os⟩ _ h1 q
    wp_walk using q1
    refine wpAny_stack_any fun st => wpAny_pure ?_
    split
    · rename_i c _ _ _ _ _
      cases (c == Value.type "enumerate")
      · wp_walk using q1
        exact ⟨_, rfl, h⟩
      · wp_walk using q1
        exact ⟨_, rfl, h⟩
    · wp_walk using q1
      exact ⟨_, rfl, h⟩
theorem call_enum1 {prog : Program} {w : World} {A : Around} {E : Value → Shared → Prop} {s : Shared} {v : Value} {o : Obj} {G : Heap → Prop} {Q : Value → Shared → Prop} (B : Begins v o G) (h1 : G s.heap)
    (h : ∀ h', IsEnum h' (s.heap.objs.size + 1) s.heap.objs.size 0 .none → h'.get? s.heap.objs.size = some o → h'.objs.size = s.heap.objs.size + 2 →
      (∀ b o, s.heap.get? b = some o → h'.get? b = some o) → Q (.ref (s.heap.objs.size + 1)) { s with heap := h' }) : wpAny (model prog w) A (call (.type "enumerate") [v]) Q E s := by
  refine callType_new F.called_enumerate (by decide) (F.typeCall_enumerate_1 _) (F.newCall_enumerate_1 _) (fun obj => F.args_object_init_2 obj _) F.entry_enumerate_new (meets_enum1 B) ⟨h1, ?_⟩
  have hz : (s.heap.push o).objs.size = s.heap.objs.size + 1 := Heap.size_push ..
  show _ ∧ _
  rw [hz]
  have he := Heap.get?_push_size (s.heap.push o) (o := { cls := .type "enumerate", data := .fields #[.none, .bool false, .ref s.heap.objs.size, rawInt 0, .none, .none] }) rfl
  rw [hz] at he
  exact ⟨⟨_, he, rfl⟩, h _ he (Heap.get?_push_of_some _ (Heap.get?_push_size _ B.free)) (by rw [Heap.size_push, hz]) fun b o x => Heap.get?_push_of_some _ (Heap.get?_push_of_some _ x)⟩
/-- the tuple at a, each item in a new pair -/
def Itet (K : PySem.W.Frag) (a : Addr) (xs : List V) : It :=
  ⟨fun i H => SqT K H a xs ∧ i < xs.length, fun i H v H' => ∃ T x, v = .ref T ∧ H T = none ∧ H' = upd H T (.tup [.int (i : Nat), x]) ∧ xs[i]? = some x, fun i H => SqT K H a xs ∧ xs.length ≤ i⟩
theorem turn_enumT {P : Program} {w : World} {K : PySem.W.Frag} {elts : List Expr} {kk : Nat} {tpos : Pos} (a e it : Addr) (xs : List V) (hta : a ≠ it) :
    Turn P w K (.Tuple elts kk tpos) (Itet K a xs) [e, it] e (fun i h => (∃ old, IsEnum h e it ((i : Nat) : Int) old) ∧ h.IsTupleIter it a i ∧ e ≠ it ∧ i ≤ xs.length) where
  mem := by simp
  obj := fun i h st b hb => by
    obtain ⟨⟨old, he⟩, ⟨o, ho, hc, hd⟩, _⟩ := st
    have e' : b = e ∨ b = it := by simpa using hb
    rcases e' with z | z
    · rw [z]
      exact ⟨_, he, fun v q => nomatch q⟩
    · rw [z]
      exact ⟨o, ho, fun v q => by rw [hd] at q; cases q⟩
  keep := fun i h h' st k => let ⟨⟨old, he⟩, hi, hne, hn⟩ := st; ⟨⟨old, k e (by simp) _ he⟩, hi.at fun o q => k it (by simp) o q, hne, hn⟩
  item := by
    intro X hP hw hK hc i pins s σ H E I hf st hg
    subst hP hw hK
    obtain ⟨⟨old, he⟩, hit, hne, hn⟩ := st
    obtain ⟨hq, hlt⟩ := hg
    obtain ⟨its, rv, p, hz⟩ := I.tuple hq
    have p' : s.heap.IsTuple a its.toArray := p
    have hl := rv.length
    have hel : e < s.heap.objs.size := Heap.lt_size he
    have hil : it < s.heap.objs.size := by
      obtain ⟨_, q, _⟩ := hit
      exact Heap.lt_size q
    have hea : e ≠ a := fun q => by
      obtain ⟨o, ho, hc', _⟩ := p'
      rw [← q, he] at ho
      cases ho
      have z : Value.type "enumerate" = Value.type "tuple" := hc'
      injection z with z
      exact absurd z (by decide)
    have D := Draws.tuple (prog := X.prog) (w := X.w) (A := X.A.in1) (I.ok.hd hc) it a hta its.toArray
    refine wpAny_pyNext_enum_itemD D he ⟨hit, p'⟩ (by simpa [← hl] using hlt) hne (by simp [hne, hea]) fun u h' tk hu ho hs' hT hsz hk => ?_
    obtain ⟨x, hx, ru⟩ : ∃ x, xs[i]? = some x ∧ RelV x u := by
      obtain ⟨u', hu', r'⟩ := rv.get (List.getElem?_eq_getElem hlt)
      have e1 : its[i]? = some u := by simpa using hu
      rw [e1] at hu'
      cases hu'
      exact ⟨_, List.getElem?_eq_getElem hlt, r'⟩
    refine ⟨_, rfl, wpAny_letOwnedTupleGo_enum (s := { s with heap := h', toks := tk + 1 }) ho fun h'' he' sb => ?_⟩
    have hT2 : h''.get? s.heap.objs.size = some { cls := .type "tuple", data := .seq #[.int i tk, u] } := (sb.2 _ (Nat.ne_of_gt hel)).trans hT
    have new : ObjOk X.prog X.w (upd H s.heap.objs.size (.tup [.int (i : Nat), x])) h'' s.heap.objs.size (.tup [.int (i : Nat), x]) :=
      ⟨by show 2 ≤ sizeLine; decide, [.int i tk, u], .cons ⟨_, rfl⟩ (.cons ru .nil), ⟨_, hT2, rfl, _, rfl⟩⟩
    have I1 : Inv X pins σ (upd H s.heap.objs.size (.tup [.int (i : Nat), x])) { s with heap := h'', toks := tk + 1 } :=
      I.turnedNew (ch := [e, it]) (fun b ob hb q => (sb.2 b (fun z => hb (by simp [z]))).trans (hk b ob (fun z => hb (by simp [z])) (fun z => hb (by simp [z])) q)) hf (Nat.le_refl _) new
    refine ⟨.ref s.heap.objs.size, _, I1, rfl, ⟨_, x, rfl, I.hok.fresh (Nat.le_refl _), rfl, hx⟩, ⟨⟨u, ?_⟩, hs'.1.at fun o q => (sb.2 it (Ne.symm hne)).trans q, hne, hlt⟩, fun b hb => ?_⟩
    · have e1 : ((i + 1 : Nat) : Int) = (i : Int) + 1 := by omega
      rw [e1]
      exact he'
    · have hb' : b < s.heap.objs.size := by
        have e' : b = e ∨ b = it := by simpa using hb
        rcases e' with z | z
        · rw [z]
          exact hel
        · rw [z]
          exact hil
      rw [upd_ne (Nat.ne_of_lt hb')]
      exact (hf b hb).1
  done := by
    intro X hP hw hK hc i pins s σ H E I hf st hg
    subst hP hw hK
    obtain ⟨⟨old, he⟩, hit, hne, hn⟩ := st
    obtain ⟨hq, hx⟩ := hg
    obtain ⟨its, rv, p, hz⟩ := I.tuple hq
    have p' : s.heap.IsTuple a its.toArray := p
    obtain ⟨f0, f1, f2, f3, f4, f5⟩ := hf it (by simp)
    have hl := rv.length
    have hi : i = its.toArray.size := by
      simp
      omega
    subst hi
    have D := Draws.tuple (prog := X.prog) (w := X.w) (A := X.A.in1) (I.ok.hd hc) it a hta its.toArray
    exact wpAny_pyNext_enum_endD D he ⟨hit, p'⟩ fun h' eb => ⟨rfl, I.turned (t' := s.toks) (fun b o hb q => eb b o hb q) f0 f1 f3 f4 f5⟩
  self := fun A i s Q E st h => let ⟨⟨_, he⟩, _⟩ := st; wpAny_pyIter_enum he h
def iEnumT (K : PySem.W.Frag) (ta : TA) : TI := fun σ H R => ta σ H fun vs H1 => ∃ a xs, vs = [.ref a] ∧ SqT K H1 a xs ∧ R (Itet K a xs) H1
theorem pi_enumT {X : Cx} {e : Expr} {ta : TA} {p pos tpos : Pos} {elts : List Expr} {kk : Nat} (hg : Gl X "enumerate") (hm : X.mg "enumerate" = none) (ha : PA X [e] ta) (hs : starEach [e] X.env = [(false, eval e X.env)] := by rfl) :
    PI X (.Tuple elts kk tpos) (.Call (.Name "enumerate" p) [e] [] pos) (iEnumT X.K ta) := by
  refine ⟨fun pins s σ H R I h => ?_⟩
  refine PyProof.Rows.Call_ (ld_blt I hg hm PyProof.Rows.boot_enumerate (PyProof.Rows.callWith_type1 (thn (ha.run pos pins s σ H _ I h) fun us s1 ⟨vs, H1, I1, r1, q1⟩ => ?_) hs rfl))
  obtain ⟨a, xs, ex, hq, q⟩ := q1
  subst ex
  cases r1 with
  | cons r rr =>
    cases rr
    cases r
    obtain ⟨its, rv, p', hz⟩ := I1.tuple hq
    have p2 : s1.heap.IsTuple a its.toArray := p'
    refine call_enum1 (begins_tuple a its.toArray) p2 fun h' he hit hsz hk => wpAny_pyIter_enum he ?_
    have I2 : Inv X pins σ H1 { s1 with heap := h' } := I1.kept (t' := s1.toks) hk
    have hal : a < s1.heap.objs.size := by
      obtain ⟨_, q, _⟩ := p2
      exact Heap.lt_size q
    refine ⟨s1.heap.objs.size + 1, [s1.heap.objs.size + 1, s1.heap.objs.size], _, _, H1, rfl, I2, turn_enumT a (s1.heap.objs.size + 1) s1.heap.objs.size xs (Nat.ne_of_lt hal), ⟨⟨.none, he⟩, ⟨_, hit, rfl, rfl⟩, Nat.succ_ne_self _, Nat.zero_le _⟩, fun b hb => ?_, q⟩
    have e' : b = s1.heap.objs.size + 1 ∨ b = s1.heap.objs.size := by simpa using hb
    have hle : s1.heap.objs.size ≤ b := by
      rcases e' with z | z
      · rw [z]
        exact Nat.le_add_right _ _
      · rw [z]
        exact Nat.le_refl _
    exact I1.fpOk hle (I1.hok.fresh hle)
/-! ### the turns of such loops -/
section
variable {σ : St} {H : Hp} {n b c : St → Hp → Prop} {r : VK} {Q : VK} {K : PySem.W.Frag}
theorem r_each {J : It} {g : TG} {tb : TS} (N : Nat) (Pv : Nat → St → Hp → Prop) (h0 : Pv 0 σ H)
    (hs : ∀ (i : Nat) σ H, i < N → Pv i σ H → J.go i H ∧ ∀ x H', J.yld i H x H' → g x σ H' fun σ2 H2 => tb ⟨Pv (i + 1), r, n, Pv (i + 1)⟩ σ2 H2) (hd : ∀ σ H, Pv N σ H → J.stop N H ∧ n σ H) :
    ∃ W : Nat → Nat → St → Hp → Prop, (∃ m, W 0 m σ H) ∧ ∀ i m σ H, W i m σ H →
    (J.stop i H ∧ n σ H) ∨ (J.go i H ∧ ∃ N : St → Hp → Prop, (∀ σ' H', N σ' H' → ∃ m', m' < m ∧ W (i + 1) m' σ' H') ∧ ∀ x H', J.yld i H x H' → g x σ H' fun σ2 H2 => tb ⟨N, r, n, N⟩ σ2 H2) := by
  refine ⟨fun i m σ H => i ≤ N ∧ m = N - i ∧ Pv i σ H, ⟨N, Nat.zero_le _, rfl, h0⟩, fun i m σ H ⟨hi, hm, hp⟩ => ?_⟩
  by_cases c : i < N
  · obtain ⟨h1, h2⟩ := hs i σ H c hp
    exact .inr ⟨h1, Pv (i + 1), fun σ' H' q => ⟨N - (i + 1), by omega, c, rfl, q⟩, h2⟩
  · have e : i = N := by omega
    subst e
    exact .inl (hd σ H hp)
/-- a for over a list -/
theorem r_eachL {g : TG} {tb : TS} {a : Addr} {xs : List V} (Pv : Nat → St → Hp → Prop) (h0 : Pv 0 σ H) (hl : ∀ i σ H, Pv i σ H → SqL K H a xs)
    (hs : ∀ (i : Nat) x σ H, xs[i]? = some x → Pv i σ H → g x σ H fun σ2 H2 => tb ⟨Pv (i + 1), r, n, Pv (i + 1)⟩ σ2 H2) (hd : ∀ σ H, Pv xs.length σ H → n σ H) :
    ∃ W : Nat → Nat → St → Hp → Prop, (∃ m, W 0 m σ H) ∧ ∀ i m σ H, W i m σ H →
    ((Itl K a).stop i H ∧ n σ H) ∨ ((Itl K a).go i H ∧ ∃ N : St → Hp → Prop, (∀ σ' H', N σ' H' → ∃ m', m' < m ∧ W (i + 1) m' σ' H') ∧ ∀ x H', (Itl K a).yld i H x H' → g x σ H' fun σ2 H2 => tb ⟨N, r, n, N⟩ σ2 H2) := by
  refine r_each xs.length Pv h0 (fun i σ H hi p => ⟨⟨xs, xs[i], hl i σ H p, List.getElem?_eq_getElem hi⟩, ?_⟩) fun σ H p => ⟨⟨xs, hl _ σ H p, Nat.le_refl _⟩, hd σ H p⟩
  rintro x _ ⟨rfl, e⟩
  exact hs i x σ _ (e xs (hl i σ _ p)) p
/-- .. a tuple -/
theorem r_eachT {g : TG} {tb : TS} {a : Addr} {xs : List V} (Pv : Nat → St → Hp → Prop) (h0 : Pv 0 σ H) (hl : ∀ i σ H, Pv i σ H → SqT K H a xs)
    (hs : ∀ (i : Nat) x σ H, xs[i]? = some x → Pv i σ H → g x σ H fun σ2 H2 => tb ⟨Pv (i + 1), r, n, Pv (i + 1)⟩ σ2 H2) (hd : ∀ σ H, Pv xs.length σ H → n σ H) :
    ∃ W : Nat → Nat → St → Hp → Prop, (∃ m, W 0 m σ H) ∧ ∀ i m σ H, W i m σ H →
    ((Itt K a).stop i H ∧ n σ H) ∨ ((Itt K a).go i H ∧ ∃ N : St → Hp → Prop, (∀ σ' H', N σ' H' → ∃ m', m' < m ∧ W (i + 1) m' σ' H') ∧ ∀ x H', (Itt K a).yld i H x H' → g x σ H' fun σ2 H2 => tb ⟨N, r, n, N⟩ σ2 H2) := by
  refine r_each xs.length Pv h0 (fun i σ H hi p => ⟨⟨xs, xs[i], hl i σ H p, List.getElem?_eq_getElem hi⟩, ?_⟩) fun σ H p => ⟨⟨xs, hl _ σ H p, Nat.le_refl _⟩, hd σ H p⟩
  rintro x _ ⟨rfl, e⟩
  exact hs i x σ _ (e xs (hl i σ _ p)) p
/-- .. with the numbers of the turns -/
theorem r_eachE {g : TG} {tb : TS} {a : Addr} {xs : List V} (Pv : Nat → St → Hp → Prop) (h0 : Pv 0 σ H) (hl : ∀ i σ H, Pv i σ H → SqL K H a xs)
    (hs : ∀ (i : Nat) x σ H T, xs[i]? = some x → Pv i σ H → H T = none → g (.ref T) σ (upd H T (.tup [.int (i : Nat), x])) fun σ2 H2 => tb ⟨Pv (i + 1), r, n, Pv (i + 1)⟩ σ2 H2) (hd : ∀ σ H, Pv xs.length σ H → n σ H) :
    ∃ W : Nat → Nat → St → Hp → Prop, (∃ m, W 0 m σ H) ∧ ∀ i m σ H, W i m σ H →
    ((Ite K a).stop i H ∧ n σ H) ∨ ((Ite K a).go i H ∧ ∃ N : St → Hp → Prop, (∀ σ' H', N σ' H' → ∃ m', m' < m ∧ W (i + 1) m' σ' H') ∧ ∀ x H', (Ite K a).yld i H x H' → g x σ H' fun σ2 H2 => tb ⟨N, r, n, N⟩ σ2 H2) := by
  refine r_each xs.length Pv h0 (fun i σ H hi p => ⟨⟨xs, xs[i], hl i σ H p, List.getElem?_eq_getElem hi⟩, ?_⟩) fun σ H p => ⟨⟨xs, hl _ σ H p, Nat.le_refl _⟩, hd σ H p⟩
  rintro _ _ ⟨T, x, rfl, hT, rfl, e⟩
  exact hs i x σ _ T (e xs (hl i σ _ p)) p hT
theorem r_eachET {g : TG} {tb : TS} {a : Addr} {xs : List V} (Pv : Nat → St → Hp → Prop) (h0 : Pv 0 σ H) (hl : ∀ i σ H, Pv i σ H → SqT K H a xs)
    (hs : ∀ (i : Nat) x σ H T, xs[i]? = some x → Pv i σ H → H T = none → g (.ref T) σ (upd H T (.tup [.int (i : Nat), x])) fun σ2 H2 => tb ⟨Pv (i + 1), r, n, Pv (i + 1)⟩ σ2 H2) (hd : ∀ σ H, Pv xs.length σ H → n σ H) :
    ∃ W : Nat → Nat → St → Hp → Prop, (∃ m, W 0 m σ H) ∧ ∀ i m σ H, W i m σ H →
    ((Itet K a xs).stop i H ∧ n σ H) ∨ ((Itet K a xs).go i H ∧ ∃ N : St → Hp → Prop, (∀ σ' H', N σ' H' → ∃ m', m' < m ∧ W (i + 1) m' σ' H') ∧ ∀ x H', (Itet K a xs).yld i H x H' → g x σ H' fun σ2 H2 => tb ⟨N, r, n, N⟩ σ2 H2) := by
  refine r_each xs.length Pv h0 (fun i σ H hi p => ⟨⟨hl i σ H p, hi⟩, ?_⟩) fun σ H p => ⟨⟨hl _ σ H p, Nat.le_refl _⟩, hd σ H p⟩
  rintro _ _ ⟨T, x, rfl, hT, rfl, e⟩
  exact hs i x σ _ T e p hT
/-- .. of range(i, j, c) -/
theorem r_eachR {g : TG} {tb : TS} {i0 j0 c0 : Int} (k : Nat) (hc : RgC i0 j0 c0 k) (Pv : Nat → St → Hp → Prop) (h0 : Pv 0 σ H)
    (hs : ∀ (i : Nat) σ H, i < k → Pv i σ H → g (.int (i0 + i * c0)) σ H fun σ2 H2 => tb ⟨Pv (i + 1), r, n, Pv (i + 1)⟩ σ2 H2) (hd : ∀ σ H, Pv k σ H → n σ H) :
    RgC i0 j0 c0 k ∧ ∃ W : Nat → Nat → St → Hp → Prop, (∃ m, W 0 m σ H) ∧ ∀ i m σ H, W i m σ H →
    ((Itc i0 c0 k).stop i H ∧ n σ H) ∨ ((Itc i0 c0 k).go i H ∧ ∃ N : St → Hp → Prop, (∀ σ' H', N σ' H' → ∃ m', m' < m ∧ W (i + 1) m' σ' H') ∧ ∀ x H', (Itc i0 c0 k).yld i H x H' → g x σ H' fun σ2 H2 => tb ⟨N, r, n, N⟩ σ2 H2) := by
  refine ⟨hc, r_each k Pv h0 (fun i σ H hi p => ⟨hi, ?_⟩) fun σ H p => ⟨Nat.le_refl _, hd σ H p⟩⟩
  rintro _ _ ⟨rfl, rfl⟩
  exact hs i σ _ hi p
theorem r_rng2 {ta : TA} {R : It → Hp → Prop} (h : ta σ H fun vs H1 => ∃ i j : Int, vs = [.int i, .int j] ∧ (-(2 ^ 62) ≤ i ∧ i < 2 ^ 62 ∧ -(2 ^ 62) ≤ j ∧ j < 2 ^ 62) ∧ R (Itr i (j - i).toNat) H1) : iRng2 ta σ H R := h
theorem r_rng3 {ta : TA} {R : It → Hp → Prop} (h : ta σ H fun vs H1 => ∃ (i j c : Int) (n : Nat), vs = [.int i, .int j, .int c] ∧ RgC i j c n ∧ R (Itc i c n) H1) : iRng3 ta σ H R := h
theorem r_itL {tl : TE} {R : It → Hp → Prop} (h : tl σ H fun x H1 => ∃ a, x = .ref a ∧ (∃ xs, SqL K H1 a xs) ∧ R (Itl K a) H1) : iList K tl σ H R := h
theorem r_itT {tl : TE} {R : It → Hp → Prop} (h : tl σ H fun x H1 => ∃ a, x = .ref a ∧ (∃ xs, SqT K H1 a xs) ∧ R (Itt K a) H1) : iTup K tl σ H R := h
theorem r_itE {ta : TA} {R : It → Hp → Prop} (h : ta σ H fun vs H1 => ∃ a xs, vs = [.ref a] ∧ SqL K H1 a xs ∧ R (Ite K a) H1) : iEnum K ta σ H R := h
theorem r_itET {ta : TA} {R : It → Hp → Prop} (h : ta σ H fun vs H1 => ∃ a xs, vs = [.ref a] ∧ SqT K H1 a xs ∧ R (Itet K a xs) H1) : iEnumT K ta σ H R := h
theorem r_eqB {i j : Bool} (h : Q (.bl (decide (i = j))) H) : rEq (.bl i) (.bl j) H Q := by
  have e : decide (V.bl i = V.bl j) = decide (i = j) := by simp
  exact ⟨rfl, by rw [e]; exact h⟩
theorem r_neB {i j : Bool} (h : Q (.bl (!decide (i = j))) H) : rNe (.bl i) (.bl j) H Q := by
  have e : decide (V.bl i = V.bl j) = decide (i = j) := by simp
  exact ⟨rfl, by rw [e]; exact h⟩
end

local macro_rules | `(tactic| walk_at "rv") => `(tactic| ((with_reducible apply r_var); (· rfl)))
local macro_rules | `(tactic| walk_at "rd1") => `(tactic| first
  | (with_reducible refine r_seq ?_)
  | (with_reducible refine r_asg ?_)
  | (with_reducible refine r_name ?_)
  | ((with_reducible apply r_var); (· rfl))
  | (with_reducible refine r_c ?_)
  | (with_reducible refine r_op ?_)
  | (with_reducible refine r_I0 ?_)
  | (with_reducible refine r_eqI ?_)
  | (with_reducible refine r_neI ?_)
  | (with_reducible refine r_eqS ?_)
  | (with_reducible refine r_neS ?_)
  | (with_reducible refine r_cons ?_)
  | (with_reducible refine r_nil ?_)
  | (with_reducible refine r_if ?_)
  | (with_reducible refine r_test ?_)
  | (with_reducible refine r_B ?_)
  | (with_reducible refine r_bl ?_)
  | (with_reducible refine r_ret ?_)
  | (with_reducible refine r_drop ?_)
  | (with_reducible refine r_un ?_)
  | (with_reducible refine r_U ?_)
  | (with_reducible refine r_CB ?_)
  | (with_reducible refine r_call ?_)
  | (with_reducible refine r_retN ?_)
  | (with_reducible refine r_next ?_)
  | (with_reducible refine r_brk ?_)
  | (with_reducible refine r_ifE ?_)
  | (with_reducible refine r_and ?_)
  | (with_reducible refine r_or ?_)
  | (with_reducible refine r_not ?_)
  | (with_reducible refine r_andV ?_)
  | (with_reducible refine r_orV ?_)
  | (with_reducible refine r_notV ?_)
  | (with_reducible refine r_chain ?_)
  | (with_reducible refine r_iteF ?_)
  | (with_reducible refine r_iteT ?_)
  | (with_reducible refine r_iteNT ?_)
  | (with_reducible refine r_iteNF ?_)
  | ((with_reducible apply r_I); (· first | decide | exact ⟨by decide, by decide⟩ | exact .inr ⟨by decide, by decide⟩ | exact .inl ⟨by decide, by decide⟩ | exact ⟨by decide, by decide, by decide⟩))
  | (with_reducible refine r_bm ?_)
  | (with_reducible refine r_bm0 ?_)
  | (with_reducible refine r_sub ?_)
  | (with_reducible refine r_yes ?_)
  | (with_reducible refine r_fld ?_)
  | (with_reducible refine r_sfld ?_)
  | (with_reducible refine r_meth ?_)
  | (with_reducible refine r_prop ?_)
  | (with_reducible refine r_make ?_)
  | (with_reducible refine r_gcons ?_)
  | (with_reducible refine r_gnil ?_)
  | (with_reducible refine r_rfl ?_)
  | (with_reducible refine r_for ?_)
  | (with_reducible refine r_rng1 ?_)
  | (with_reducible refine r_int1 ?_)
  | (with_reducible refine r_abs ?_)
  | (with_reducible refine r_tup ?_)
  | (with_reducible refine r_lst ?_))
local macro_rules | `(tactic| walk_at "rd") => `(tactic| repeat (walk_at "rd1"))
local macro_rules | `(tactic| walk_at "ri1") => `(tactic| first
  | (with_reducible refine r_seq ?_)
  | (with_reducible refine r_asg ?_)
  | (with_reducible refine r_name ?_)
  | ((with_reducible apply r_var); (· rfl))
  | (with_reducible refine r_c ?_)
  | (with_reducible refine r_op ?_)
  | (with_reducible refine r_I0 ?_)
  | (with_reducible refine r_eqI ?_)
  | (with_reducible refine r_neI ?_)
  | (with_reducible refine r_eqS ?_)
  | (with_reducible refine r_neS ?_)
  | (with_reducible refine r_cons ?_)
  | (with_reducible refine r_nil ?_)
  | (with_reducible refine r_test ?_)
  | (with_reducible refine r_B ?_)
  | (with_reducible refine r_bl ?_)
  | (with_reducible refine r_ret ?_)
  | (with_reducible refine r_drop ?_)
  | (with_reducible refine r_un ?_)
  | (with_reducible refine r_U ?_)
  | (with_reducible refine r_CB ?_)
  | (with_reducible refine r_call ?_)
  | (with_reducible refine r_retN ?_)
  | (with_reducible refine r_next ?_)
  | (with_reducible refine r_brk ?_)
  | (with_reducible refine r_ifE ?_)
  | (with_reducible refine r_and ?_)
  | (with_reducible refine r_or ?_)
  | (with_reducible refine r_not ?_)
  | (with_reducible refine r_andV ?_)
  | (with_reducible refine r_orV ?_)
  | (with_reducible refine r_notV ?_)
  | (with_reducible refine r_chain ?_)
  | (with_reducible refine r_iteF ?_)
  | (with_reducible refine r_iteT ?_)
  | (with_reducible refine r_iteNT ?_)
  | (with_reducible refine r_iteNF ?_)
  | ((with_reducible apply r_I); (· first | decide | exact ⟨by decide, by decide⟩ | exact .inr ⟨by decide, by decide⟩ | exact .inl ⟨by decide, by decide⟩ | exact ⟨by decide, by decide, by decide⟩))
  | (with_reducible refine r_bm ?_)
  | (with_reducible refine r_bm0 ?_)
  | (with_reducible refine r_sub ?_)
  | (with_reducible refine r_yes ?_)
  | (with_reducible refine r_fld ?_)
  | (with_reducible refine r_sfld ?_)
  | (with_reducible refine r_meth ?_)
  | (with_reducible refine r_prop ?_)
  | (with_reducible refine r_make ?_)
  | (with_reducible refine r_gcons ?_)
  | (with_reducible refine r_gnil ?_)
  | (with_reducible refine r_rfl ?_)
  | (with_reducible refine r_for ?_)
  | (with_reducible refine r_rng1 ?_)
  | (with_reducible refine r_int1 ?_)
  | (with_reducible refine r_abs ?_)
  | (with_reducible refine r_tup ?_)
  | (with_reducible refine r_lst ?_))
local macro_rules | `(tactic| walk_at "ri") => `(tactic| repeat (walk_at "ri1"))

abbrev C_Utf8 (K : Frg) : Addr := He.ga K "Utf8"
structure Nm (K : Frg) (mg : Str → Option Value) : Prop where
  enumerate : mg "enumerate" = none
  len : mg "len" = none
  tuple : mg "tuple" = none
  abs : mg "abs" = none
  range : mg "range" = none
  int : mg "int" = none
  max : mg "max" = none
  min : mg "min" = none
  isinstance : mg "isinstance" = none
  list : mg "list" = none
  g_FIRSTS : ∃ v u, mg "FIRSTS" = some u ∧ RelV v u ∧ ∀ H, Dp K H v (.tuple [.tuple [.int 194, .int 223, .int 1, .int 128, .int 191], .tuple [.int 224, .int 224, .int 2, .int 160, .int 191], .tuple [.int 225, .int 236, .int 2, .int 128, .int 191], .tuple [.int 237, .int 237, .int 2, .int 128, .int 159], .tuple [.int 238, .int 239, .int 2, .int 128, .int 191], .tuple [.int 240, .int 240, .int 3, .int 144, .int 191], .tuple [.int 241, .int 243, .int 3, .int 128, .int 191], .tuple [.int 244, .int 244, .int 3, .int 128, .int 143]])
  g_MARKS : ∃ v u, mg "MARKS" = some u ∧ RelV v u ∧ ∀ H, Dp K H v (.tuple [.int 0, .int 192, .int 224, .int 240])
  cl_Utf8 : Cls K (C_Utf8 K)
  g_Utf8 : mg "Utf8" = some (.ref (C_Utf8 K))
  mk_Utf8 : Mk K (C_Utf8 K) (meAd "Utf8" "__init__" K)
  na_Utf8_points : NoAttr K (C_Utf8 K) "points"
  na_Utf8__missing : NoAttr K (C_Utf8 K) "_missing"
  na_Utf8__worth : NoAttr K (C_Utf8 K) "_worth"
  na_Utf8__least : NoAttr K (C_Utf8 K) "_least"
  na_Utf8__most : NoAttr K (C_Utf8 K) "_most"
  pr_Utf8_is_open : PropOf K (C_Utf8 K) "is_open" (He.ma K (C_Utf8 K) "is_open") (prAd "Utf8" "is_open" K)
  me_Utf8_take : Meth K (C_Utf8 K) "take" (meAd "Utf8" "take" K)
  me_Utf8__begin : Meth K (C_Utf8 K) "_begin" (meAd "Utf8" "_begin" K)
  me_Utf8__go_on : Meth K (C_Utf8 K) "_go_on" (meAd "Utf8" "_go_on" K)
  dig : PySem.W.nsIn K cStatics "sys.int_max_str_digits" = some none
def fs_Utf8 (x0 x1 x2 x3 x4 : V) : List (Str × V) := [("points", x0), ("_missing", x1), ("_worth", x2), ("_least", x3), ("_most", x4)]
theorem lk_Utf8_points {x0 x1 x2 x3 x4 : V} : (fs_Utf8 x0 x1 x2 x3 x4).lookup ("points" : Str) = some x0 := by
  unfold fs_Utf8
  rw [lk_hit]
theorem pt_Utf8_points {x0 x1 x2 x3 x4 y : V} : putF "points" y (fs_Utf8 x0 x1 x2 x3 x4) = fs_Utf8 y x1 x2 x3 x4 := by
  unfold fs_Utf8
  rw [pf_hit]
theorem in_Utf8_points {x0 : V} : putF "points" x0 ([] : List (Str × V)) = ([("points", x0)] : List (Str × V)) := by
  rw [pf_nil]
theorem lk_Utf8__missing {x0 x1 x2 x3 x4 : V} : (fs_Utf8 x0 x1 x2 x3 x4).lookup ("_missing" : Str) = some x1 := by
  unfold fs_Utf8
  rw [lk_miss (by decide +kernel), lk_hit]
theorem pt_Utf8__missing {x0 x1 x2 x3 x4 y : V} : putF "_missing" y (fs_Utf8 x0 x1 x2 x3 x4) = fs_Utf8 x0 y x2 x3 x4 := by
  unfold fs_Utf8
  rw [pf_miss (by decide +kernel), pf_hit]
theorem in_Utf8__missing {x0 x1 : V} : putF "_missing" x1 ([("points", x0)] : List (Str × V)) = ([("points", x0), ("_missing", x1)] : List (Str × V)) := by
  rw [pf_miss (by decide +kernel), pf_nil]
theorem lk_Utf8__worth {x0 x1 x2 x3 x4 : V} : (fs_Utf8 x0 x1 x2 x3 x4).lookup ("_worth" : Str) = some x2 := by
  unfold fs_Utf8
  rw [lk_miss (by decide +kernel), lk_miss (by decide +kernel), lk_hit]
theorem pt_Utf8__worth {x0 x1 x2 x3 x4 y : V} : putF "_worth" y (fs_Utf8 x0 x1 x2 x3 x4) = fs_Utf8 x0 x1 y x3 x4 := by
  unfold fs_Utf8
  rw [pf_miss (by decide +kernel), pf_miss (by decide +kernel), pf_hit]
theorem in_Utf8__worth {x0 x1 x2 : V} : putF "_worth" x2 ([("points", x0), ("_missing", x1)] : List (Str × V)) = ([("points", x0), ("_missing", x1), ("_worth", x2)] : List (Str × V)) := by
  rw [pf_miss (by decide +kernel), pf_miss (by decide +kernel), pf_nil]
theorem lk_Utf8__least {x0 x1 x2 x3 x4 : V} : (fs_Utf8 x0 x1 x2 x3 x4).lookup ("_least" : Str) = some x3 := by
  unfold fs_Utf8
  rw [lk_miss (by decide +kernel), lk_miss (by decide +kernel), lk_miss (by decide +kernel), lk_hit]
theorem pt_Utf8__least {x0 x1 x2 x3 x4 y : V} : putF "_least" y (fs_Utf8 x0 x1 x2 x3 x4) = fs_Utf8 x0 x1 x2 y x4 := by
  unfold fs_Utf8
  rw [pf_miss (by decide +kernel), pf_miss (by decide +kernel), pf_miss (by decide +kernel), pf_hit]
theorem in_Utf8__least {x0 x1 x2 x3 : V} : putF "_least" x3 ([("points", x0), ("_missing", x1), ("_worth", x2)] : List (Str × V)) = ([("points", x0), ("_missing", x1), ("_worth", x2), ("_least", x3)] : List (Str × V)) := by
  rw [pf_miss (by decide +kernel), pf_miss (by decide +kernel), pf_miss (by decide +kernel), pf_nil]
theorem lk_Utf8__most {x0 x1 x2 x3 x4 : V} : (fs_Utf8 x0 x1 x2 x3 x4).lookup ("_most" : Str) = some x4 := by
  unfold fs_Utf8
  rw [lk_miss (by decide +kernel), lk_miss (by decide +kernel), lk_miss (by decide +kernel), lk_miss (by decide +kernel), lk_hit]
theorem pt_Utf8__most {x0 x1 x2 x3 x4 y : V} : putF "_most" y (fs_Utf8 x0 x1 x2 x3 x4) = fs_Utf8 x0 x1 x2 x3 y := by
  unfold fs_Utf8
  rw [pf_miss (by decide +kernel), pf_miss (by decide +kernel), pf_miss (by decide +kernel), pf_miss (by decide +kernel), pf_hit]
theorem in_Utf8__most {x0 x1 x2 x3 x4 : V} : putF "_most" x4 ([("points", x0), ("_missing", x1), ("_worth", x2), ("_least", x3)] : List (Str × V)) = ([("points", x0), ("_missing", x1), ("_worth", x2), ("_least", x3), ("_most", x4)] : List (Str × V)) := by
  rw [pf_miss (by decide +kernel), pf_miss (by decide +kernel), pf_miss (by decide +kernel), pf_miss (by decide +kernel), pf_nil]
theorem no_Utf8_take {x0 x1 x2 x3 x4 : V} : (fs_Utf8 x0 x1 x2 x3 x4).lookup ("take" : Str) = none := by
  unfold fs_Utf8
  rw [lk_miss (by decide +kernel), lk_miss (by decide +kernel), lk_miss (by decide +kernel), lk_miss (by decide +kernel), lk_miss (by decide +kernel)] <;> rfl
theorem no_Utf8__begin {x0 x1 x2 x3 x4 : V} : (fs_Utf8 x0 x1 x2 x3 x4).lookup ("_begin" : Str) = none := by
  unfold fs_Utf8
  rw [lk_miss (by decide +kernel), lk_miss (by decide +kernel), lk_miss (by decide +kernel), lk_miss (by decide +kernel), lk_miss (by decide +kernel)] <;> rfl
theorem no_Utf8__go_on {x0 x1 x2 x3 x4 : V} : (fs_Utf8 x0 x1 x2 x3 x4).lookup ("_go_on" : Str) = none := by
  unfold fs_Utf8
  rw [lk_miss (by decide +kernel), lk_miss (by decide +kernel), lk_miss (by decide +kernel), lk_miss (by decide +kernel), lk_miss (by decide +kernel)] <;> rfl
theorem few_Utf8 {x0 x1 x2 x3 x4 : V} : (fs_Utf8 x0 x1 x2 x3 x4).length < 1000 := by
  show 5 < 1000
  decide

/-! ### numbers by powers of ten -/
theorem pow_bits {b : Int} (hb : b.natAbs < 16) (c : Nat) : (b ^ c).natAbs < 2 ^ (4 * c + 1) := by
  rw [Int.natAbs_pow]
  have h1 : b.natAbs ^ c ≤ 16 ^ c := Nat.pow_le_pow_left (by omega) c
  have h2 : (16 : Nat) ^ c = 2 ^ (4 * c) := by
    rw [Nat.pow_mul]
  have h3 : (2 : Nat) ^ (4 * c) < 2 ^ (4 * c + 1) := Nat.pow_lt_pow_right (by decide) (by omega)
  omega
theorem bits10 (n : Nat) : (10 : Int) ^ n < 2 ^ (4 * n + 1) := by
  have h := pow_bits (b := 10) (by decide) n
  have e : ((10 : Int) ^ n).natAbs = 10 ^ n := by rw [Int.natAbs_pow]; rfl
  rw [e] at h
  have h2 : ((10 ^ n : Nat) : Int) < ((2 ^ (4 * n + 1) : Nat) : Int) := Int.ofNat_lt.mpr h
  rw [Int.natCast_pow, Int.natCast_pow] at h2
  exact h2
theorem abs10 {x : Int} {n : Nat} (h : x.natAbs < 10 ^ n) : x.natAbs < 2 ^ (4 * n + 1) := by
  have h1 := pow_bits (b := 10) (by decide) n
  have e : ((10 : Int) ^ n).natAbs = 10 ^ n := by rw [Int.natAbs_pow]; rfl
  rw [e] at h1
  omega
theorem abs_mul10 {x y : Int} {a b : Nat} (h1 : x.natAbs < 10 ^ a) (h2 : y.natAbs < 10 ^ b) : (x * y).natAbs < 10 ^ (a + b) := by
  rw [Int.natAbs_mul, Nat.pow_add]
  exact Nat.mul_lt_mul'' h1 h2
theorem natAbs10 (n : Nat) : ((10 : Int) ^ n).natAbs = 10 ^ n := by rw [Int.natAbs_pow]; rfl
theorem pow10_le {a b : Nat} (h : a ≤ b) : (10 : Nat) ^ a ≤ 10 ^ b := Nat.pow_le_pow_right (by decide) h
def sp_law (K : PySem.W.Frag) : Sp := sp1 fun a H Q _ => ∃ (sl : Addr) (ns : List Int), a = .ref sl ∧ SqL K H sl (ns.map V.int) ∧ ∀ H', Q (.bl true) H'

/-! ### the law's state: a list of drawn numbers, its place, and the script; every draw is any number below its bound -/
structure SC where
  a : Addr
  nl : Addr
  sl : Addr
  nums : List Int
  ns : List Int
structure LS (K : PySem.W.Frag) (S : SC) (H : Hp) : Prop where
  st : ∃ k l f : Int, H S.a = some (.lst [.ref S.nl, .int k, .int l, .ref S.sl, .int f])
  nm : H S.nl = some (.lst (S.nums.map V.int))
  len : S.nums.length = 120
  ne : S.nl ≠ S.a
  scr : SqL K H S.sl (S.ns.map V.int)
/-- all but the state's own list stays -/
def Keep (S : SC) (H H' : Hp) : Prop := ∀ b o, b ≠ S.a → H b = some o → H' b = some o
theorem Keep.refl (S : SC) (H : Hp) : Keep S H H := fun _ _ _ h => h
theorem Keep.trans {S : SC} {H H1 H2 : Hp} (a : Keep S H H1) (b : Keep S H1 H2) : Keep S H H2 := fun c o n h => b c o n (a c o n h)
theorem Keep.of {S : SC} {H H' : Hp} (h : Same H H') : Keep S H H' := fun b o _ q => h b o q
section
variable {K : PySem.W.Frag} {S : SC} {H H' : Hp}
theorem LS.same (L : LS K S H) (h : Same H H') : LS K S H' := by
  obtain ⟨⟨k, l, f, e⟩, h2, h3, h4, h5⟩ := L
  exact ⟨⟨k, l, f, h _ _ e⟩, h _ _ h2, h3, h4, h.seq h5⟩
theorem LS.new (L : LS K S H) {p : Addr} (h : H p = none) (o : HO) : LS K S (upd H p o) := L.same (same_upd h o)
theorem LS.put (L : LS K S H) (k l f : Int) : LS K S (upd H S.a (.lst [.ref S.nl, .int k, .int l, .ref S.sl, .int f])) := by
  obtain ⟨⟨k', l', f', e⟩, h2, h3, h4, h5⟩ := L
  refine ⟨⟨k, l, f, upd_same⟩, (upd_ne h4).trans h2, h3, h4, ?_⟩
  rcases h5 with (h | ⟨o, h⟩) | h
  · refine .inl (.inl ((upd_ne fun q => ?_).trans h))
    rw [q, e] at h
    injection h with h
    injection h with h
    cases hn : S.ns with
    | nil =>
      rw [hn] at h
      cases h
    | cons x r =>
      rw [hn] at h
      cases h
  · refine .inl (.inr ⟨o, (upd_ne fun q => ?_).trans h⟩)
    rw [q, e] at h
    cases h
  · exact .inr h
theorem Keep.put (o : HO) : Keep S H (upd H S.a o) := fun b u n h => (upd_ne n).trans h
/-- an address that is free later was free before -/
theorem Keep.free (h : Keep S H H') (L : LS K S H') {p : Addr} (hp : H' p = none) : H p = none := by
  have n : p ≠ S.a := fun e => by
    obtain ⟨k, l, f, q⟩ := L.st
    rw [e, q] at hp
    cases hp
  cases e : H p with
  | none => rfl
  | some o =>
    rw [h p o n e] at hp
    cases hp
theorem LS.ne_free (L : LS K S H) {p : Addr} (hp : H p = none) : p ≠ S.a := fun e => by
  obtain ⟨k, l, f, q⟩ := L.st
  rw [e, q] at hp
  cases hp
end
abbrev s__law_cell : Stmt := (top 6)
theorem sc__law_cell : FnScope ["script", "k"] ["script", "k"] (defScope s__law_cell) := ⟨rfl, rfl, rfl, by decide +kernel, rfl, by decide +kernel, by decide +kernel⟩
abbrev s__law_numbers : Stmt := (top 7)
theorem sc__law_numbers : FnScope ["cell", "many", "rest", "size", "numbers", "k", "mixed"] ["cell", "many"] (defScope s__law_numbers) := ⟨rfl, rfl, rfl, by decide +kernel, rfl, by decide +kernel, by decide +kernel⟩
abbrev s__law_state : Stmt := (top 8)
theorem sc__law_state : FnScope ["script", "left", "numbers", "k", "parted"] ["script", "left"] (defScope s__law_state) := ⟨rfl, rfl, rfl, by decide +kernel, rfl, by decide +kernel, by decide +kernel⟩
abbrev s__law_next : Stmt := (top 9)
theorem sc__law_next : FnScope ["state", "many", "at"] ["state", "many"] (defScope s__law_next) := ⟨rfl, rfl, rfl, by decide +kernel, rfl, by decide +kernel, by decide +kernel⟩
abbrev s__law_big : Stmt := (top 10)
theorem sc__law_big : FnScope ["state", "many", "cell"] ["state", "many"] (defScope s__law_big) := ⟨rfl, rfl, rfl, by decide +kernel, rfl, by decide +kernel, by decide +kernel⟩
def sp__law_cell (K : PySem.W.Frag) : Sp := sp2 fun a b H Q _ => ∃ (sl : Addr) (ns : List Int) (k : Int), a = .ref sl ∧ b = .int k ∧ SqL K H sl (ns.map V.int) ∧ 0 ≤ k ∧ ∀ z : Int, Q (.int z) H
def sp__law_numbers : Sp := sp2 fun a b H Q _ => ∃ (z : Int) (n : Nat), a = .int z ∧ b = .int (n : Int) ∧ n ≤ 1000 ∧ ∀ (p : Addr) (xs : List Int), H p = none → xs.length = n → Q (.ref p) (upd H p (.lst (xs.map V.int)))
def sp__law_state (K : PySem.W.Frag) : Sp := sp2 fun a b H Q _ => ∃ (sl : Addr) (ns : List Int) (l : Int), a = .ref sl ∧ b = .int l ∧ SqL K H sl (ns.map V.int) ∧
  ∀ (S : SC) (H' : Hp), S.sl = sl → S.ns = ns → LS K S H' → Same H H' → H S.a = none → Q (.ref S.a) H'
def sp__law_next (K : PySem.W.Frag) : Sp := sp2 fun a b H Q _ => ∃ (S : SC) (m : Int), a = .ref S.a ∧ b = .int m ∧ 0 < m ∧ LS K S H ∧ ∀ (r : Int) (H' : Hp), 0 ≤ r → r < m → LS K S H' → Keep S H H' → Q (.int r) H'
def sp__law_big (K : PySem.W.Frag) : Sp := sp__law_next K
section
variable {P : Program} {w : World} {K : PySem.W.Frag} {mg : Str → Option Value} {base : Heap} {f : Addr} {fd : FuncData}
theorem ok__law_cell (F : FunD K "_law_cell" "_law_cell" (defArgs s__law_cell) (defBody s__law_cell) (defScope s__law_cell) [] [] (glAd "_law_cell" K) fd) (m : mg "_law_cell" = some (.ref (glAd "_law_cell" K))) (nb : Nm K mg) : Cal P w K mg base 1 "_law_cell" (sp__law_cell K) [] := by
  refine calD F m sc__law_cell (fun _ _ _ _ _ _ us hl => match us, hl with | [_, _], _ => rfl) len2 (fun cdv A outer s H vs Q E hr h => ⟨_, (pss_cons (ps_if (pt_cmpR op_lt (pv 1) (pe_callB call_len_seq (by rfl) nb.len PySem.boot_len (pa_cons (pv 0) pa_nil)) (nomark _))
    (pss_one (ps_ret (pe_ix ix_list (pv 0) (pv 1) (fun _ _ => rfl))))
    pss_nil)
    (pss_one (ps_ret pe_int))), ?_⟩)
  obtain ⟨_, _, rfl, sl, ns, k, rfl, rfl, hs, h0, h⟩ := h
  walk_at "rd"
  refine ⟨_, _, rfl, .inl hs, ?_⟩
  walk_at "rd"
  refine r_ite (fun c => ?_) (fun c => ?_)
  · rw [List.length_map] at c
    obtain ⟨v, _, e⟩ := atI_ints h0 c
    walk_at "rd"
    exact r_ixL hs e (h v)
  · walk_at "rd"
    exact h 0
theorem ok__law_numbers (F : FunD K "_law_numbers" "_law_numbers" (defArgs s__law_numbers) (defBody s__law_numbers) (defScope s__law_numbers) [] [] (glAd "_law_numbers" K) fd) (m : mg "_law_numbers" = some (.ref (glAd "_law_numbers" K))) (nb : Nm K mg) : Cal P w K mg base 1 "_law_numbers" sp__law_numbers [] := by
  refine calD F m sc__law_numbers (fun _ _ _ _ _ _ us hl => match us, hl with | [_, _], _ => rfl) len2 (fun cdv A outer s H vs Q E hr h => ⟨_, (pss_cons (ps_set (i := 2) sc__law_numbers.nd rfl (Or.inl rfl) (pe_callB call_abs (by rfl) nb.abs (by decide +kernel) (pa_cons (pv 0) pa_nil)))
    (pss_cons (ps_set (i := 3) sc__law_numbers.nd rfl (Or.inl rfl) (pv 2))
    (pss_cons (ps_set (i := 4) sc__law_numbers.nd rfl (Or.inl rfl) (pe_lst pa_nil))
    (pss_cons (ps_for PassesOwn.never rfl (pi_range1 rfl nb.range (pa_cons (pv 1) pa_nil)) (pg_name (i := 5) sc__law_numbers.nd rfl (Or.inl rfl))
    (pss_one (ps_if (PW.pt (pw_and (pt_cmpR op_ge (pv 3) (pe_op op_pow pe_int pe_int) (nomark _)) (pw_and1 (pt_cmpR op_gt (pv 2) pe_int (nomark _)))))
    (pss_cons (ps_expr (pe_bm PySem.F.plainAttrs_list PySem.F.slot_list_append PySem.F.type_list_append mt_append (pv 4) (pa_cons (pe_op op_mod (pe_callTy call_int1 (by rfl) nb.int (by decide +kernel) (pa_cons (pv 2) pa_nil)) pe_int) pa_nil)))
    (pss_one (ps_set (i := 2) sc__law_numbers.nd rfl (Or.inl rfl) (pe_op op_fdiv (pv 2) pe_int))))
    (pss_cons (ps_set (i := 6) sc__law_numbers.nd rfl (Or.inl rfl) (pe_op op_mod (pe_callTy call_int1 (by rfl) nb.int (by decide +kernel) (pa_cons (pe_op op_add (pe_op op_add (pe_op op_mul (pv 3) pe_int) (pe_op op_mul (pv 5) pe_int)) pe_int) pa_nil)) pe_int))
    (pss_cons (ps_set (i := 6) sc__law_numbers.nd rfl (Or.inl rfl) (pe_op op_mod (pe_callTy call_int1 (by rfl) nb.int (by decide +kernel) (pa_cons (pe_op op_add (pe_op op_add (pe_op op_mul (pv 6) (pv 6)) (pe_op op_mul pe_int (pv 5))) pe_int) pa_nil)) pe_int))
    (pss_one (ps_expr (pe_bm PySem.F.plainAttrs_list PySem.F.slot_list_append PySem.F.type_list_append mt_append (pv 4) (pa_cons (pe_op op_mod (pe_callTy call_int1 (by rfl) nb.int (by decide +kernel) (pa_cons (pe_op op_fdiv (pv 6) pe_int) pa_nil)) pe_int) pa_nil)))))))))
    (pss_one (ps_ret (pv 4))))))), ?_⟩)
  obtain ⟨_, _, rfl, z, n, rfl, rfl, hn, h⟩ := h
  walk_at "rd"
  refine ⟨Nat.zero_le _, fun p hp => ?_⟩
  walk_at "rd"
  refine r_turns (by omega) (by omega) (fun i σ H' => ∃ (rest size : Int) (xs : List Int) (k mx : Option V), σ = [some (.int z), some (.int (n : Int)), some (.int rest), some (.int size), some (.ref p), k, mx] ∧ xs.length = i ∧ H' = upd H p (.lst (xs.map V.int))) ⟨_, _, [], none, none, rfl, rfl, rfl⟩ ?_ ?_
  · rintro i σ _ hi ⟨rest, size, xs, k, mx, rfl, hl, rfl⟩
    have hsz : (xs.map V.int).length < sizeLine := small1000 (by rw [List.length_map]; omega)
    have app : ∀ y : Int, upd (upd H p (.lst (xs.map V.int))) p (.lst (xs.map V.int ++ [.int y])) = upd H p (.lst ((xs ++ [y]).map V.int)) := fun y => by
      rw [upd_upd, List.map_append]
      rfl
    have two : ∀ r : Int, ∀ (σ' : St) (k mx : Option V) (rest size : Int), σ' = [some (.int z), some (.int (n : Int)), some (.int rest), some (.int size), some (.ref p), k, mx] → ∃ (rest size : Int) (xs' : List Int) (k mx : Option V), σ' = [some (.int z), some (.int (n : Int)), some (.int rest), some (.int size), some (.ref p), k, mx] ∧ xs'.length = i + 1 ∧ upd (upd H p (.lst (xs.map V.int))) p (.lst (xs.map V.int ++ [.int r])) = upd H p (.lst (xs'.map V.int)) := fun r σ' k mx rest size e =>
      ⟨rest, size, xs ++ [r], k, mx, e, by rw [List.length_append, hl]; rfl, app r⟩
    walk_at "rd"
    refine r_ite (fun c1 => ?_) (fun c1 => ?_)
    · walk_at "rd"
      refine r_ite (fun c2 => ?_) (fun c2 => ?_)
      · walk_at "rd"
        refine ⟨tyL upd_same, ?_⟩
        walk_at "rd"
        refine r_app upd_same hsz ?_
        walk_at "rd"
        exact two _ _ _ _ _ _ rfl
      · walk_at "rd"
        refine r_I (.inl ⟨by omega, by omega⟩) ?_
        walk_at "rd"
        refine ⟨tyL upd_same, ?_⟩
        walk_at "rd"
        refine r_app upd_same hsz ?_
        walk_at "rd"
        exact two _ _ _ _ _ _ rfl
    · walk_at "rd"
      refine r_I (.inl ⟨by omega, by omega⟩) ?_
      walk_at "rd"
      refine ⟨tyL upd_same, ?_⟩
      walk_at "rd"
      refine r_app upd_same hsz ?_
      walk_at "rd"
      exact two _ _ _ _ _ _ rfl
  · rintro σ _ ⟨rest, size, xs, k, mx, rfl, hl, rfl⟩
    walk_at "rd"
    exact h p xs hp (by omega)
theorem ok__law_next (F : FunD K "_law_next" "_law_next" (defArgs s__law_next) (defBody s__law_next) (defScope s__law_next) [] [] (glAd "_law_next" K) fd) (m : mg "_law_next" = some (.ref (glAd "_law_next" K))) (nb : Nm K mg) : Cal P w K mg base 1 "_law_next" (sp__law_next K) [] := by
  refine calD F m sc__law_next (fun _ _ _ _ _ _ us hl => match us, hl with | [_, _], _ => rfl) len2 (fun cdv A outer s H vs Q E hr h => ⟨_, (pss_cons (ps_set (i := 2) sc__law_next.nd rfl (Or.inl rfl) (pe_ix ix_list (pv 0) pe_int (fun _ _ => rfl)))
    (pss_cons (ps_asg (pe_op op_add (pv 2) pe_int) (pg_sub (pv 0) pe_int set_list))
    (pss_one (ps_ret (pe_op op_mod (pe_callTy call_int1 (by rfl) nb.int (by decide +kernel) (pa_cons (pe_op op_add (pe_ix ix_list (pe_ix ix_list (pv 0) pe_int (fun _ _ => rfl)) (pe_op op_mod (pv 2) pe_int) (fun _ _ => rfl)) (pe_op op_mul pe_int (pe_op op_fdiv (pv 2) pe_int))) pa_nil)) (pv 1)))))), ?_⟩)
  obtain ⟨_, _, rfl, S, mm, rfl, rfl, h0, L, h⟩ := h
  obtain ⟨k, l, f5, e⟩ := L.st
  walk_at "rd"
  refine r_ixL (SqL.of e) rfl ?_
  walk_at "rd"
  refine r_setL e rfl ?_
  walk_at "rd"
  have L2 := L.put (k + 1) l f5
  obtain ⟨v, _, ev⟩ := atI_ints (ns := S.nums) (k := k % 120) (by omega) (by rw [L.len]; omega)
  refine r_ixL (SqL.of upd_same) rfl ?_
  walk_at "rd"
  refine r_ixL (SqL.of L2.nm) ev ?_
  walk_at "rd"
  refine r_I h0 ?_
  exact h _ _ (Int.emod_nonneg _ (by omega)) (Int.emod_lt_of_pos _ h0) L2 (Keep.put _)
theorem ok__law_big (F : FunD K "_law_big" "_law_big" (defArgs s__law_big) (defBody s__law_big) (defScope s__law_big) [] [] (glAd "_law_big" K) fd) (m : mg "_law_big" = some (.ref (glAd "_law_big" K))) (nb : Nm K mg) (c__law_cell : Cal P w K mg base 1 "_law_cell" (sp__law_cell K) []) (c__law_next : Cal P w K mg base 1 "_law_next" (sp__law_next K) []) : Cal P w K mg base 2 "_law_big" (sp__law_big K) [] := by
  refine calD F m sc__law_big (fun _ _ _ _ _ _ us hl => match us, hl with | [_, _], _ => rfl) len2 (fun cdv A outer s H vs Q E hr h => ⟨_, (pss_cons (ps_set (i := 2) sc__law_big.nd rfl (Or.inl rfl) (pe_callB call_abs (by rfl) nb.abs (by decide +kernel) (pa_cons (pe_c c__law_cell hr (by decide) rfl (pa_cons (pe_ix ix_list (pv 0) pe_int (fun _ _ => rfl)) (pa_cons (pe_op op_add pe_int (pe_c c__law_next hr (by decide) rfl (pa_cons (pv 0) (pa_cons pe_int pa_nil)))) pa_nil))) pa_nil)))
    (pss_one (ps_ret (pe_op op_mod (pe_callTy call_int1 (by rfl) nb.int (by decide +kernel) (pa_cons (pe_op op_add (pe_op op_mul (pv 2) pe_int) (pe_c c__law_next hr (by decide) rfl (pa_cons (pv 0) (pa_cons pe_int pa_nil)))) pa_nil)) (pv 1))))), ?_⟩)
  obtain ⟨_, _, rfl, S, mm, rfl, rfl, h0, L, h⟩ := h
  obtain ⟨k, l, f5, e⟩ := L.st
  walk_at "rd"
  refine r_ixL (SqL.of e) rfl ?_
  walk_at "rd"
  refine ⟨_, _, rfl, S, _, rfl, rfl, by decide, L, fun r1 H1 a1 b1 L1 K1 => ?_⟩
  walk_at "rd"
  refine ⟨_, _, rfl, S.sl, S.ns, _, rfl, rfl, L1.scr, by omega, fun z => ?_⟩
  walk_at "rd"
  refine ⟨_, _, rfl, S, _, rfl, rfl, by decide, L1, fun r2 H2 a2 b2 L2 K2 => ?_⟩
  walk_at "rd"
  refine r_I h0 ?_
  exact h _ _ (Int.emod_nonneg _ (by omega)) (Int.emod_lt_of_pos _ h0) L2 (K1.trans K2)
theorem ok__law_state (F : FunD K "_law_state" "_law_state" (defArgs s__law_state) (defBody s__law_state) (defScope s__law_state) [] [] (glAd "_law_state" K) fd) (m : mg "_law_state" = some (.ref (glAd "_law_state" K))) (nb : Nm K mg) (c__law_cell : Cal P w K mg base 1 "_law_cell" (sp__law_cell K) []) (c__law_numbers : Cal P w K mg base 1 "_law_numbers" sp__law_numbers []) : Cal P w K mg base 2 "_law_state" (sp__law_state K) [] := by
  refine calD F m sc__law_state (fun _ _ _ _ _ _ us hl => match us, hl with | [_, _], _ => rfl) len2 (fun cdv A outer s H vs Q E hr h => ⟨_, (pss_cons (ps_set (i := 2) sc__law_state.nd rfl (Or.inl rfl) (pe_lst pa_nil))
    (pss_cons (ps_setLc (i := 4) (own := [("k", 3)]) (g := gName 3) (tt := tYes) rfl sc__law_state.nd rfl rfl (sw_true rfl rfl rfl (by decide +kernel)) (pi_range1 rfl nb.range (pa_cons pe_int pa_nil)) (blkOk_by (N := ["script", "left", "numbers", "k", "parted"]) (sc := defScope s__law_state) (by decide +kernel)) (fun _ _ _ _ _ => pg_name (i := 3) sc__law_state.nd rfl (Or.inl rfl)) (fun _ _ _ _ _ => pts_nil) (fun _ _ _ _ _ => (pe_c c__law_numbers hr (by decide) rfl (pa_cons (pe_c c__law_cell hr (by decide) rfl (pa_cons (pv 0) (pa_cons (pv 3) pa_nil))) (pa_cons pe_int pa_nil)))))
    (pss_cons (ps_for PassesOwn.never rfl (pi_range1 rfl nb.range (pa_cons pe_int pa_nil)) (pg_name (i := 3) sc__law_state.nd rfl (Or.inl rfl))
    (pss_cons (ps_expr (pe_bm PySem.F.plainAttrs_list PySem.F.slot_list_append PySem.F.type_list_append mt_append (pv 2) (pa_cons (pe_ix ix_list (pe_ix ix_list (pv 4) pe_int (fun _ _ => rfl)) (pv 3) (fun _ _ => rfl)) pa_nil)))
    (pss_cons (ps_expr (pe_bm PySem.F.plainAttrs_list PySem.F.slot_list_append PySem.F.type_list_append mt_append (pv 2) (pa_cons (pe_ix ix_list (pe_ix ix_list (pv 4) pe_int (fun _ _ => rfl)) (pv 3) (fun _ _ => rfl)) pa_nil)))
    (pss_one (ps_expr (pe_bm PySem.F.plainAttrs_list PySem.F.slot_list_append PySem.F.type_list_append mt_append (pv 2) (pa_cons (pe_ix ix_list (pe_ix ix_list (pv 4) pe_int (fun _ _ => rfl)) (pv 3) (fun _ _ => rfl)) pa_nil)))))))
    (pss_one (ps_ret (pe_lst (pa_cons (pv 2) (pa_cons pe_int (pa_cons (pv 1) (pa_cons (pv 0) (pa_cons pe_int pa_nil))))))))))), ?_⟩)
  obtain ⟨_, _, rfl, sl, ns, l, rfl, rfl, hs, h⟩ := h
  walk_at "rd"
  refine ⟨Nat.zero_le _, fun p hp => ?_⟩
  walk_at "rd"
  refine r_lcR 3 (by decide) (fun D hD => ?_) (fun R hR => hR)
  have sp0 := same_upd hp (.lst [])
  have pD : p ≠ D := fun e => by
    rw [← e, upd_same] at hD
    cases hD
  refine lc_range (fun i H' => ∃ ps : List Addr, H' D = some (.lst (ps.map V.ref)) ∧ ps.length = i ∧ (∀ q ∈ ps, q ≠ D ∧ ∃ xs : List Int, H' q = some (.lst (xs.map V.int)) ∧ xs.length = 40) ∧ Same (upd H p (.lst [])) H') ⟨[], upd_same, rfl, fun q hq => (by cases hq), same_upd hD _⟩ ?_ ?_
  · rintro i H' hi ⟨ps, e1, e2, e3, e4⟩
    walk_at "rd"
    refine ⟨rfl, ?_⟩
    walk_at "rd"
    have hs' : SqL K H' sl (ns.map V.int) := e4.seq (sp0.seq hs)
    refine ⟨_, _, rfl, sl, ns, _, rfl, rfl, hs', by omega, fun z => ?_⟩
    walk_at "rd"
    refine ⟨_, _, rfl, z, 40, rfl, rfl, by decide, fun q xs hq hx => ?_⟩
    have Dq : D ≠ q := ne_of_none e1 hq
    refine ⟨_, (upd_ne Dq).trans e1, small1000 (by rw [List.length_map]; omega), ps ++ [q], ?_, by rw [List.length_append, e2]; rfl, ?_, ?_⟩
    · rw [upd_same, List.map_append]
      rfl
    · intro q' hq'
      rcases List.mem_append.mp hq' with h1 | h1
      · obtain ⟨n1, xs', x1, x2⟩ := e3 q' h1
        exact ⟨n1, xs', by rw [upd_ne n1, upd_ne (ne_of_none x1 hq)]; exact x1, x2⟩
      · have e5 : q' = q := by simpa using h1
        subst e5
        exact ⟨Ne.symm Dq, xs, by rw [upd_ne (Ne.symm Dq), upd_same], hx⟩
    · intro b o hb
      have hb2 := e4 b o hb
      rw [upd_ne (ne_of_none hb hD), upd_ne (ne_of_none hb2 hq)]
      exact hb2
  · rintro H' ⟨ps, e1, e2, e3, e4⟩
    walk_at "rd"
    obtain ⟨p0, p1, p2, rfl⟩ : ∃ p0 p1 p2, ps = [p0, p1, p2] := match ps, e2 with | [a, b, c], _ => ⟨a, b, c, rfl⟩
    obtain ⟨_, x0, y0, z0⟩ := e3 p0 (by simp)
    obtain ⟨_, x1, y1, z1⟩ := e3 p1 (by simp)
    obtain ⟨_, x2, y2, z2⟩ := e3 p2 (by simp)
    have hp' : H' p = some (.lst []) := e4 _ _ upd_same
    have ne0 : ∀ {q : Addr} {xs : List Int}, H' q = some (.lst (xs.map V.int)) → xs.length = 40 → q ≠ p := fun {q xs} h1 h2 h3 => by
      rw [h3, hp'] at h1
      injection h1 with h1
      injection h1 with h1
      have h4 := congrArg List.length h1
      rw [List.length_map, h2] at h4
      cases h4
    have n0 := ne0 y0 z0
    have n1 := ne0 y1 z1
    have n2 := ne0 y2 z2
    have nD : D ≠ p := Ne.symm pD
    have fit : ∀ (xs : List Int) (i : Nat), xs.length = 40 → (i : Int) < 40 → ∃ v, atI (xs.map V.int) (i : Int) = some (.int v) := fun xs i h1 h2 => by
      obtain ⟨v, _, e⟩ := atI_ints (ns := xs) (k := (i : Int)) (by omega) (by omega)
      exact ⟨v, e⟩
    refine r_turns (by decide) (by decide) (fun i σ H2 => ∃ (zs : List Int) (kk : Option V), σ = [some (.ref sl), some (.int l), some (.ref p), kk, some (.ref D)] ∧ zs.length = 3 * i ∧ H2 = upd H' p (.lst (zs.map V.int))) ⟨[], none, rfl, rfl, ?_⟩ ?_ ?_
    · funext b
      by_cases c : b = p
      · subst c
        rw [upd_same, hp']
        rfl
      · rw [upd_ne c]
    · rintro i σ _ hi ⟨zs, kk, rfl, hz, rfl⟩
      obtain ⟨v0, a0⟩ := fit x0 i z0 hi
      obtain ⟨v1, a1⟩ := fit x1 i z1 hi
      obtain ⟨v2, a2⟩ := fit x2 i z2 hi
      walk_at "rd"
      refine ⟨tyL upd_same, ?_⟩
      walk_at "rd"
      refine r_ixL (SqL.of ((upd_ne nD).trans e1)) rfl ?_
      walk_at "rd"
      refine r_ixL (SqL.of ((upd_ne n0).trans y0)) a0 ?_
      walk_at "rd"
      refine r_app upd_same (small1000 (by rw [List.length_map]; omega)) ?_
      rw [upd_upd]
      walk_at "rd"
      refine ⟨tyL upd_same, ?_⟩
      walk_at "rd"
      refine r_ixL (SqL.of ((upd_ne nD).trans e1)) rfl ?_
      walk_at "rd"
      refine r_ixL (SqL.of ((upd_ne n1).trans y1)) a1 ?_
      walk_at "rd"
      refine r_app upd_same (small1000 (by rw [List.length_append, List.length_map]; show zs.length + 1 ≤ 1000; omega)) ?_
      rw [upd_upd]
      walk_at "rd"
      refine ⟨tyL upd_same, ?_⟩
      walk_at "rd"
      refine r_ixL (SqL.of ((upd_ne nD).trans e1)) rfl ?_
      walk_at "rd"
      refine r_ixL (SqL.of ((upd_ne n2).trans y2)) a2 ?_
      walk_at "rd"
      refine r_app upd_same (small1000 (by rw [List.length_append, List.length_append, List.length_map]; show zs.length + 1 + 1 ≤ 1000; omega)) ?_
      rw [upd_upd]
      exact ⟨zs ++ [v0] ++ [v1] ++ [v2], _, rfl, by simp [hz]; omega, by simp⟩
    · rintro σ _ ⟨zs, kk, rfl, hz, rfl⟩
      walk_at "rd"
      refine ⟨(by show 5 ≤ sizeLine; decide), fun a ha => ?_⟩
      have sa := same_upd ha (.lst [.ref p, .int 0, .int l, .ref sl, .int 3])
      have pa : p ≠ a := ne_of_none upd_same ha
      have all : Same H (upd H' p (.lst (zs.map V.int))) := fun b o hb => by
        rw [upd_ne (ne_of_none hb hp)]
        exact e4 _ _ (sp0 _ _ hb)
      have hsl : SqL K H sl (ns.map V.int) := hs
      refine h ⟨a, p, sl, zs, ns⟩ _ rfl rfl ⟨⟨0, l, 3, upd_same⟩, (upd_ne pa).trans upd_same, by rw [hz]; rfl, pa, sa.seq (all.seq hs)⟩ (all.trans sa) (all.free ha)
end

/-! ### draws -/
section
variable {K : PySem.W.Frag} {S : SC} {σ : St} {H : Hp} {Q : VK} {E : XK}
theorem d_next {m : Int} (L : LS K S H) (hm : 0 < m) (h : ∀ (r : Int) (H' : Hp), 0 ≤ r → r < m → LS K S H' → Keep S H H' → Q (.int r) H') : sp__law_next K ([.ref S.a, .int m] ++ []) H Q E := ⟨_, _, rfl, S, m, rfl, rfl, hm, L, h⟩
/-- a new object -/
theorem d_new {o : HO} {R : Addr → Hp → Prop} {c : Prop} (L : LS K S H) (hc : c) (h : ∀ (p : Addr) (H' : Hp), LS K S H' → Keep S H H' → Same H H' → H p = none → H' p = some o → p ≠ S.a → R p H') : c ∧ ∀ p, H p = none → R p (upd H p o) :=
  ⟨hc, fun p hp => h p _ (L.new hp o) (Keep.of (same_upd hp o)) (same_upd hp o) hp upd_same (L.ne_free hp)⟩
theorem d_newI {zs : List Int} {R : Addr → Hp → Prop} {c : Prop} (L : LS K S H) (hc : c) (h : ∀ (p : Addr) (H' : Hp), LS K S H' → Keep S H H' → Same H H' → H p = none → H' p = some (.lst (zs.map V.int)) → p ≠ S.a → R p H') : c ∧ ∀ p, H p = none → R p (upd H p (.lst (zs.map V.int))) := d_new L hc h
/-- [x, y, ..][_law_next(state, n)] -/
theorem d_pick {xs : List V} {n : Int} {i : Nat} (L : LS K S H) (e : σ[i]? = some (some (.ref S.a))) (hl : xs.length ≤ sizeLine) (hn : 0 < n) (hx : (xs.length : Int) = n)
    (h : ∀ (v : V) (H' : Hp), v ∈ xs → LS K S H' → Keep S H H' → Q v H') :
    xs.length ≤ sizeLine ∧ ∀ p, H p = none → tCall (sp__law_next K) [] E (tCons (tVar i) (tCons (tC (.int n)) tNil)) σ (upd H p (.lst xs)) fun y H2 => rIxL K (.ref p) y H2 Q := by
  refine ⟨hl, fun p hp => ⟨_, e, ?_⟩⟩
  show sp__law_next K ([.ref S.a, .int n] ++ []) (upd H p (.lst xs)) (fun y H2 => rIxL K (.ref p) y H2 Q) E
  refine d_next (L.new hp _) hn fun r H' h0 h1 L' k => ?_
  have hr : r.toNat < xs.length := by omega
  have er : r = ((r.toNat : Nat) : Int) := by omega
  refine ⟨p, xs, r, xs[r.toNat], rfl, rfl, SqL.of (k _ _ (L.ne_free hp) upd_same), ?_, ?_⟩
  · have q := atI_nat (xs := xs) (j := r.toNat) (v := xs[r.toNat]) (List.getElem?_eq_getElem hr)
    rw [← er] at q
    exact q
  · exact h _ _ (List.getElem_mem hr) L' ((Keep.of (same_upd hp _)).trans k)
/-- the same, all of them numbers from lo to hi -/
theorem d_pickI {xs : List V} {n : Int} {i : Nat} (lo hi : Int) (L : LS K S H) (e : σ[i]? = some (some (.ref S.a))) (hl : xs.length ≤ sizeLine) (hn : 0 < n) (hx : (xs.length : Int) = n) (hz : ∀ v ∈ xs, ∃ z, v = V.int z ∧ lo ≤ z ∧ z ≤ hi)
    (h : ∀ (z : Int) (H' : Hp), lo ≤ z → z ≤ hi → V.int z ∈ xs → LS K S H' → Keep S H H' → Q (.int z) H') :
    xs.length ≤ sizeLine ∧ ∀ p, H p = none → tCall (sp__law_next K) [] E (tCons (tVar i) (tCons (tC (.int n)) tNil)) σ (upd H p (.lst xs)) fun y H2 => rIxL K (.ref p) y H2 Q :=
  d_pick L e hl hn hx fun v H' hv L' k => by
    obtain ⟨z, rfl, h1, h2⟩ := hz v hv
    exact h z H' h1 h2 hv L' k
theorem all_nil {p : V → Prop} : ∀ v ∈ ([] : List V), p v := fun v hv => by cases hv
theorem all_cons {p : V → Prop} {x : V} {xs : List V} (h : p x) (t : ∀ v ∈ xs, p v) : ∀ v ∈ x :: xs, p v := fun v hv => by
  rcases List.mem_cons.mp hv with e | e
  · rw [e]
    exact h
  · exact t v e
end

/-! ### the program's UTF-8 -/
section
variable {σ : St} {H : Hp} {n b c : St → Hp → Prop} {r : VK} {Q : VK} {K : Frg} {a C dx : Addr} {fs : List (Str × V)} {f : Str} {v : V}
theorem r_fsetK {R : Hp → Prop} {fs' : List (Str × V)} (h : H a = some (.ins C dx fs)) (cl : Cls K C) (na : NoAttr K C f) (hl : fs.length < 1000) (e : putF f v fs = fs') (q : ∀ H', H' a = some (.ins C dx fs') → (∀ b, b ≠ a → H' b = H b) → R H') :
    ∃ a' C dx fs, V.ref a = .ref a' ∧ H a' = some (.ins C dx fs) ∧ Cls K C ∧ NoAttr K C f ∧ fs.length < 1000 ∧ R (upd H a' (.ins C dx (putF f v fs))) := r_fset h cl na hl e (q _ upd_same fun _ hb => upd_ne hb)
theorem r_appK {p : Addr} {xs : List V} {y : V} (h : H p = some (.lst xs)) (hl : xs.length < sizeLine) (q : ∀ H', H' p = some (.lst (xs ++ [y])) → (∀ b, b ≠ p → H' b = H b) → Q .non H') : rAppend (.ref p) [y] H Q := r_app h hl (q _ upd_same fun _ hb => upd_ne hb)
end
def enc1 (c : Int) : List Int :=
  if c < 128 then [c] else if c < 2048 then [192 + c / 64, 128 + c % 64] else if c < 65536 then [224 + c / 4096, 128 + c / 64 % 64, 128 + c % 64]
  else [240 + c / 262144, 128 + c / 4096 % 64, 128 + c / 64 % 64, 128 + c % 64]
def encs (cs : List Int) : List Int := cs.flatMap enc1
structure U8 where
  ps : List Int
  ms : Int
  wo : Int
  le : Int
  mo : Int
def u80 : U8 := ⟨[], 0, 0, 128, 191⟩
def U8At (K : Frg) (H : Hp) (a l : Addr) (s : U8) : Prop := ∃ dx, H a = some (.ins (C_Utf8 K) dx (fs_Utf8 (.ref l) (.int s.ms) (.int s.wo) (.int s.le) (.int s.mo))) ∧ H l = some (.lst (s.ps.map V.int))
def But (a l : Addr) (H H' : Hp) : Prop := ∀ b u, b ≠ a → b ≠ l → H b = some u → H' b = some u
def u8go (s : U8) (b : Int) : Bool × U8 :=
  if s.le ≤ b ∧ b ≤ s.mo then (true, ⟨if s.ms - 1 = 0 then s.ps ++ [s.wo * 64 + b - 128] else s.ps, s.ms - 1, s.wo * 64 + b - 128, 128, 191⟩) else (false, s)
structure U8R where
  f : Int
  l : Int
  m : Int
  le : Int
  mo : Int
def rows8 : List U8R := [⟨194, 223, 1, 128, 191⟩, ⟨224, 224, 2, 160, 191⟩, ⟨225, 236, 2, 128, 191⟩, ⟨237, 237, 2, 128, 159⟩, ⟨238, 239, 2, 128, 191⟩, ⟨240, 240, 3, 144, 191⟩, ⟨241, 243, 3, 128, 191⟩, ⟨244, 244, 3, 128, 143⟩]
def U8R.dat (r : U8R) : PyData := .tuple [.int r.f, .int r.l, .int r.m, .int r.le, .int r.mo]
def U8R.is (r : U8R) (b : Int) : Bool := decide (r.f ≤ b ∧ b ≤ r.l)
def mark8 (m : Int) : Int := if m = 1 then 192 else if m = 2 then 224 else 240
def u8start (s : U8) (b : Int) : Bool × U8 :=
  match rows8.find? (·.is b) with
  | some r => (true, ⟨s.ps, r.m, b - mark8 r.m, r.le, r.mo⟩)
  | none => (false, s)
def u8take (s : U8) (b : Int) : Bool × U8 := if s.ms > 0 then u8go s b else if b < 128 then (true, { s with ps := s.ps ++ [b] }) else u8start s b
/-- a list or tuple of numbers at a -/
def RowAt (H : Hp) (a : Addr) (zs : List Int) : Prop := H a = some (.lst (zs.map V.int)) ∨ H a = some (.tup (zs.map V.int))
def Point (c : Int) : Prop := 0 ≤ c ∧ c ≤ 1114111 ∧ (c < 55296 ∨ 57344 ≤ c)
def sp_Utf8___init__ (K : Frg) : Sp := sp1 fun p H Q _ => ∃ a dx, p = .ref a ∧ H a = some (.ins (C_Utf8 K) dx []) ∧ ∀ l H', H l = none → l ≠ a → U8At K H' a l u80 → (∀ b u, b ≠ a → H b = some u → H' b = some u) → Q .non H'
def sp_Utf8_is_open (K : Frg) : Sp := sp1 fun p H Q _ => ∃ a l s, p = .ref a ∧ U8At K H a l s ∧ Q (.bl (decide (s.ms > 0))) H
def SpU (K : Frg) (f : U8 → Int → Bool × U8) : Sp := sp2 fun p o H Q _ => ∃ a l s b, p = .ref a ∧ o = .int b ∧ U8At K H a l s ∧ s.ps.length < sizeLine ∧ ∀ H', U8At K H' a l (f s b).2 → But a l H H' → Q (.bl (f s b).1) H'
def sp_Utf8__go_on (K : Frg) : Sp := SpU K u8go
def sp_Utf8__begin (K : Frg) : Sp := SpU K u8start
def sp_Utf8_take (K : Frg) : Sp := SpU K u8take
abbrev s_Utf8___init__ : Stmt := (inClass (top 3) 0)
theorem sc_Utf8___init__ : FnScope ["self"] ["self"] (defScope s_Utf8___init__) := ⟨rfl, rfl, rfl, by decide +kernel, rfl, by decide +kernel, by decide +kernel⟩
abbrev s_Utf8_is_open : Stmt := (inClass (top 3) 1)
theorem sc_Utf8_is_open : FnScope ["self"] ["self"] (defScope s_Utf8_is_open) := ⟨rfl, rfl, rfl, by decide +kernel, rfl, by decide +kernel, by decide +kernel⟩
abbrev s_Utf8__go_on : Stmt := (inClass (top 3) 4)
theorem sc_Utf8__go_on : FnScope ["self", "octet"] ["self", "octet"] (defScope s_Utf8__go_on) := ⟨rfl, rfl, rfl, by decide +kernel, rfl, by decide +kernel, by decide +kernel⟩
abbrev s_Utf8__begin : Stmt := (inClass (top 3) 3)
theorem sc_Utf8__begin : FnScope ["self", "octet", "first", "last", "many", "least", "most"] ["self", "octet"] (defScope s_Utf8__begin) := ⟨rfl, rfl, rfl, by decide +kernel, rfl, by decide +kernel, by decide +kernel⟩
abbrev s_Utf8_take : Stmt := (inClass (top 3) 2)
theorem sc_Utf8_take : FnScope ["self", "octet"] ["self", "octet"] (defScope s_Utf8_take) := ⟨rfl, rfl, rfl, by decide +kernel, rfl, by decide +kernel, by decide +kernel⟩
theorem u8_ne {K : Frg} {H : Hp} {a l : Addr} {s : U8} (h : U8At K H a l s) : l ≠ a := by
  obtain ⟨dx, h1, h2⟩ := h
  rintro rfl
  rw [h1] at h2
  cases h2
theorem map_snoc (ps : List Int) (x : Int) : ps.map V.int ++ [V.int x] = (ps ++ [x]).map V.int := by simp
section
variable {P : Program} {w : World} {K : PySem.W.Frag} {mg : Str → Option Value} {base : Heap} {f : Addr} {fd : FuncData}
theorem ok_Utf8__go_on (F : FunD K "_go_on" "Utf8._go_on" (defArgs s_Utf8__go_on) (defBody s_Utf8__go_on) (defScope s_Utf8__go_on) [] [] (meAd "Utf8" "_go_on" K) fd) (nb : Nm K mg) : Met P w K mg base 1 (C_Utf8 K) "_go_on" (sp_Utf8__go_on K) [] := by
  refine metD F nb.cl_Utf8 nb.me_Utf8__go_on sc_Utf8__go_on (fun _ _ _ _ _ _ us hl => match us, hl with | [_, _], _ => rfl) len2 (fun cdv A outer s H vs Q E hr h => ⟨_, (pss_cons (ps_if (pt_not (pt_chain op_le op_le (pe_fld (pv 0) rfl) (pv 1) (pe_fld (pv 0) rfl)))
    (pss_one (ps_ret pe_bl))
    pss_nil)
    (pss_cons (ps_fld (pv 0) (pe_op op_sub (pe_op op_add (pe_op op_mul (pe_fld (pv 0) rfl) pe_int) (pv 1)) pe_int) rfl)
    (pss_cons (ps_fld (pv 0) pe_int rfl)
    (pss_cons (ps_fld (pv 0) pe_int rfl)
    (pss_cons (ps_fld (pv 0) (pe_op op_sub (pe_fld (pv 0) rfl) pe_int) rfl)
    (pss_cut (ps_if (pt_cmpR op_eq (pe_fld (pv 0) rfl) pe_int (nomark _))
    (pss_one (ps_expr (pe_bm PySem.F.plainAttrs_list PySem.F.slot_list_append PySem.F.type_list_append mt_append (pe_fld (pv 0) rfl) (pa_cons (pe_fld (pv 0) rfl) pa_nil))))
    pss_nil)
    (pss_one (ps_ret pe_bl)))))))), ?_⟩)
  obtain ⟨_, _, rfl, a, l, s, b, rfl, rfl, hU, hl, h⟩ := h
  have hne := u8_ne hU
  obtain ⟨dx, hA, hL⟩ := id hU
  walk_at "rd"
  refine r_fget hA nb.cl_Utf8 nb.na_Utf8__least lk_Utf8__least ?_
  walk_at "rd"
  have no : (¬ (s.le ≤ b ∧ b ≤ s.mo)) → Q (.bl false) H := fun c => by
    have e : u8go s b = (false, s) := by
      unfold u8go
      rw [if_neg c]
    rw [e] at h
    exact h H hU (fun _ _ _ _ z => z)
  refine r_ite (fun c1 => ?_) (fun c1 => ?_)
  · walk_at "rd"
    refine r_fget hA nb.cl_Utf8 nb.na_Utf8__most lk_Utf8__most ?_
    walk_at "rd"
    refine r_iten (fun c2 => ?_) (fun c2 => ?_)
    · walk_at "rd"
      exact no fun z => c2 z.2
    have e : u8go s b = (true, ⟨if s.ms - 1 = 0 then s.ps ++ [s.wo * 64 + b - 128] else s.ps, s.ms - 1, s.wo * 64 + b - 128, 128, 191⟩) := by
      unfold u8go
      rw [if_pos ⟨c1, c2⟩]
    rw [e] at h
    walk_at "rd"
    refine r_fget hA nb.cl_Utf8 nb.na_Utf8__worth lk_Utf8__worth ?_
    walk_at "rd"
    walk_at "rd"
    refine r_fsetK hA nb.cl_Utf8 nb.na_Utf8__worth (few_Utf8) pt_Utf8__worth fun H1 hA1 f1 => ?_
    walk_at "rd"
    refine r_fsetK hA1 nb.cl_Utf8 nb.na_Utf8__least (few_Utf8) pt_Utf8__least fun H2 hA2 f2 => ?_
    walk_at "rd"
    refine r_fsetK hA2 nb.cl_Utf8 nb.na_Utf8__most (few_Utf8) pt_Utf8__most fun H3 hA3 f3 => ?_
    walk_at "rd"
    refine r_fget hA3 nb.cl_Utf8 nb.na_Utf8__missing lk_Utf8__missing ?_
    walk_at "rd"
    refine r_fsetK hA3 nb.cl_Utf8 nb.na_Utf8__missing (few_Utf8) pt_Utf8__missing fun H4 hA4 f4 => ?_
    have hL4 : H4 l = some (.lst (s.ps.map V.int)) := by rw [f4 l hne, f3 l hne, f2 l hne, f1 l hne]; exact hL
    have b4 : But a l H H4 := fun p u p1 p2 z => by rw [f4 p p1, f3 p p1, f2 p p1, f1 p p1]; exact z
    refine r_cut (fun _ H' => U8At K H' a l ⟨if s.ms - 1 = 0 then s.ps ++ [s.wo * 64 + b - 128] else s.ps, s.ms - 1, s.wo * 64 + b - 128, 128, 191⟩ ∧ But a l H H') ?_ ?_
    · walk_at "rd"
      refine r_fget hA4 nb.cl_Utf8 nb.na_Utf8__missing lk_Utf8__missing ?_
      walk_at "rd"
      refine r_ite (fun c3 => ?_) (fun c3 => ?_)
      · walk_at "rd"
        refine r_fget hA4 nb.cl_Utf8 nb.na_Utf8_points lk_Utf8_points ?_
        refine ⟨tyL hL4, ?_⟩
        walk_at "rd"
        refine r_fget hA4 nb.cl_Utf8 nb.na_Utf8__worth lk_Utf8__worth ?_
        walk_at "rd"
        refine r_appK hL4 (by simpa using hl) fun H5 hL5 f5 => ?_
        rw [if_pos c3]
        refine ⟨⟨dx, ?_, ?_⟩, fun p u p1 p2 z => ?_⟩
        · rw [f5 a (Ne.symm hne)]
          exact hA4
        · rw [hL5, map_snoc]
        · rw [f5 p p2]
          exact b4 p u p1 p2 z
      · walk_at "rd"
        rw [if_neg c3]
        exact ⟨⟨dx, hA4, hL4⟩, b4⟩
    rintro σ' H' ⟨g1, g2⟩
    walk_at "rd"
    exact h _ g1 g2
  · walk_at "rd"
    exact no fun z => c1 z.1
theorem ok_Utf8_is_open (F : FunD K "is_open" "Utf8.is_open" (defArgs s_Utf8_is_open) (defBody s_Utf8_is_open) (defScope s_Utf8_is_open) [] [] (prAd "Utf8" "is_open" K) fd) (nb : Nm K mg) : Prp P w K mg base 1 (C_Utf8 K) "is_open" (sp_Utf8_is_open K) := by
  refine prpD F nb.cl_Utf8 nb.pr_Utf8_is_open sc_Utf8_is_open (fun _ _ _ _ _ _ us hl => match us, hl with | [_], _ => rfl) len1 (fun cdv A outer s H vs Q E hr h => ⟨_, (pss_one (ps_ret (pe_cmpR op_gt (pe_fld (pv 0) rfl) pe_int (nomark _)))), ?_⟩)
  obtain ⟨_, rfl, a, l, s, rfl, ⟨dx, hA, hL⟩, h⟩ := h
  walk_at "rd"
  refine r_fget hA nb.cl_Utf8 nb.na_Utf8__missing lk_Utf8__missing ?_
  walk_at "rd"
  exact h
theorem ok_Utf8___init__ (F : FunD K "__init__" "Utf8.__init__" (defArgs s_Utf8___init__) (defBody s_Utf8___init__) (defScope s_Utf8___init__) [] [] (meAd "Utf8" "__init__" K) fd) (nb : Nm K mg) : Mak P w K mg base 1 "Utf8" (C_Utf8 K) (sp_Utf8___init__ K) [] := by
  refine makD F nb.mk_Utf8 nb.g_Utf8 sc_Utf8___init__ (fun _ _ _ _ _ _ us hl => match us, hl with | [_], _ => rfl) len1 (fun cdv A outer s H vs Q E hr h => ⟨_, (pss_cons (ps_fld (pv 0) (pe_lst pa_nil) rfl)
    (pss_cons (ps_fld (pv 0) pe_int rfl)
    (pss_cons (ps_fld (pv 0) pe_int rfl)
    (pss_cons (ps_fld (pv 0) pe_int rfl)
    (pss_one (ps_fld (pv 0) pe_int rfl)))))), ?_⟩)
  obtain ⟨_, rfl, a, dx, rfl, hA, h⟩ := h
  walk_at "rd"
  refine ⟨by show 0 ≤ sizeLine; decide, fun l hl => ?_⟩
  have hne : l ≠ a := fun z => by rw [z, hA] at hl; cases hl
  have hA0 : upd H l (.lst []) a = some (.ins (C_Utf8 K) dx []) := (upd_ne (Ne.symm hne)).trans hA
  have hL0 : upd H l (.lst []) l = some (.lst []) := upd_same
  have f0 : ∀ b u, b ≠ a → H b = some u → upd H l (.lst []) b = some u := fun b u h1 h2 => same_upd hl _ b u h2
  generalize upd H l (.lst []) = H0 at hA0 hL0 f0 ⊢
  walk_at "rd"
  refine r_fsetK hA0 nb.cl_Utf8 nb.na_Utf8_points (by decide) (in_Utf8_points) fun H1 hA1 f1 => ?_
  walk_at "rd"
  refine r_fsetK hA1 nb.cl_Utf8 nb.na_Utf8__missing (by simp) (in_Utf8__missing) fun H2 hA2 f2 => ?_
  walk_at "rd"
  refine r_fsetK hA2 nb.cl_Utf8 nb.na_Utf8__worth (by simp) (in_Utf8__worth) fun H3 hA3 f3 => ?_
  walk_at "rd"
  refine r_fsetK hA3 nb.cl_Utf8 nb.na_Utf8__least (by simp) (in_Utf8__least) fun H4 hA4 f4 => ?_
  walk_at "rd"
  refine r_fsetK hA4 nb.cl_Utf8 nb.na_Utf8__most (by simp) (in_Utf8__most) fun H5 hA5 f5 => ?_
  refine h l H5 hl hne ⟨dx, hA5, ?_⟩ fun p u p1 z => ?_
  · rw [f5 l hne, f4 l hne, f3 l hne, f2 l hne, f1 l hne]
    exact hL0
  · rw [f5 p p1, f4 p p1, f3 p p1, f2 p p1, f1 p p1]
    exact f0 p u p1 z
theorem ok_Utf8_take (F : FunD K "take" "Utf8.take" (defArgs s_Utf8_take) (defBody s_Utf8_take) (defScope s_Utf8_take) [] [] (meAd "Utf8" "take" K) fd) (nb : Nm K mg) (m_Utf8__begin : Met P w K mg base 1 (C_Utf8 K) "_begin" (sp_Utf8__begin K) []) (m_Utf8__go_on : Met P w K mg base 1 (C_Utf8 K) "_go_on" (sp_Utf8__go_on K) []) : Met P w K mg base 2 (C_Utf8 K) "take" (sp_Utf8_take K) [] := by
  refine metD F nb.cl_Utf8 nb.me_Utf8_take sc_Utf8_take (fun _ _ _ _ _ _ us hl => match us, hl with | [_, _], _ => rfl) len2 (fun cdv A outer s H vs Q E hr h => ⟨_, (pss_cons (ps_if (pt_cmpR op_gt (pe_fld (pv 0) rfl) pe_int (nomark _))
    (pss_one (ps_ret (pe_mt m_Utf8__go_on hr (by decide) (pv 0) (pa_cons (pv 1) pa_nil))))
    pss_nil)
    (pss_cons (ps_if (pt_cmpR op_lt (pv 1) pe_int (nomark _))
    (pss_cons (ps_expr (pe_bm PySem.F.plainAttrs_list PySem.F.slot_list_append PySem.F.type_list_append mt_append (pe_fld (pv 0) rfl) (pa_cons (pv 1) pa_nil)))
    (pss_one (ps_ret pe_bl)))
    pss_nil)
    (pss_one (ps_ret (pe_mt m_Utf8__begin hr (by decide) (pv 0) (pa_cons (pv 1) pa_nil)))))), ?_⟩)
  obtain ⟨_, _, rfl, a, l, s, b, rfl, rfl, hU, hl, h⟩ := h
  have hne := u8_ne hU
  obtain ⟨dx, hA, hL⟩ := id hU
  walk_at "rd"
  refine r_fget hA nb.cl_Utf8 nb.na_Utf8__missing lk_Utf8__missing ?_
  walk_at "rd"
  unfold u8take at h
  refine r_ite (fun c1 => ?_) (fun c1 => ?_)
  · rw [if_pos c1] at h
    walk_at "rd"
    refine r_mget hA no_Utf8__go_on ?_
    walk_at "rd"
    exact ⟨_, _, rfl, a, l, s, b, rfl, rfl, hU, hl, h⟩
  · rw [if_neg c1] at h
    walk_at "rd"
    refine r_ite (fun c2 => ?_) (fun c2 => ?_)
    · rw [if_pos c2] at h
      walk_at "rd"
      refine r_fget hA nb.cl_Utf8 nb.na_Utf8_points lk_Utf8_points ?_
      refine ⟨tyL hL, ?_⟩
      walk_at "rd"
      refine r_appK hL (by simpa using hl) fun H5 hL5 f5 => ?_
      walk_at "rd"
      refine h H5 ⟨dx, ?_, ?_⟩ fun p u p1 p2 z => ?_
      · rw [f5 a (Ne.symm hne)]
        exact hA
      · rw [hL5, map_snoc]
      · rw [f5 p p2]
        exact z
    · rw [if_neg c2] at h
      walk_at "rd"
      refine r_mget hA no_Utf8__begin ?_
      walk_at "rd"
      exact ⟨_, _, rfl, a, l, s, b, rfl, rfl, hU, hl, h⟩
end

section
variable {K : PySem.W.Frag} {H : Hp}
theorem dp_tup {v : V} {ds : List PyData} (h : Dp K H v (.tuple ds)) : ∃ a xs, v = .ref a ∧ SqT K H a xs ∧ DpAll K H xs ds := by
  cases h
  exact ⟨_, _, rfl, by assumption, by assumption⟩
theorem dp_get : ∀ {xs : List V} {ds : List PyData} {i : Nat} {x : V}, DpAll K H xs ds → xs[i]? = some x → ∃ d, ds[i]? = some d ∧ Dp K H x d
  | [], _, _, _, _, e => by cases e
  | x :: xs, _, 0, _, .cons h t, e => by
    cases e
    exact ⟨_, rfl, h⟩
  | x :: xs, _, i + 1, _, .cons h t, e => by
    obtain ⟨d, e1, h1⟩ := dp_get (i := i) t e
    exact ⟨d, e1, h1⟩
theorem dp_len : ∀ {xs : List V} {ds : List PyData}, DpAll K H xs ds → xs.length = ds.length
  | [], _, .nil => rfl
  | _ :: _, _, .cons _ t => congrArg (· + 1) (dp_len t)
theorem dp_ints : ∀ {xs : List V} (ns : List Int), DpAll K H xs (ns.map PyData.int) → xs = ns.map V.int
  | _, [], h => by
    cases h
    rfl
  | _, n :: ns, h => by
    cases h with
    | cons h t =>
      cases h
      rw [dp_ints ns t]
      rfl
theorem dpa_ints : ∀ (ns : List Int), DpAll K H (ns.map V.int) (ns.map PyData.int)
  | [] => .nil
  | n :: ns => .cons (.int n) (dpa_ints ns)
end
def mm8 (c : Int) : Int := if c < 2048 then 1 else if c < 65536 then 2 else 3
theorem mm8_is (c : Int) : mm8 c = 1 ∨ mm8 c = 2 ∨ mm8 c = 3 := by
  unfold mm8
  split
  · exact .inl rfl
  · split
    · exact .inr (.inl rfl)
    · exact .inr (.inr rfl)
theorem enc_low {c : Int} (h : c < 128) : enc1 c = [c] := if_pos h
theorem enc_long {c : Int} (hc : 128 ≤ c) : (c < 2048 ∧ mm8 c = 1 ∧ enc1 c = [192 + c / 64, 128 + c % 64]) ∨ (2048 ≤ c ∧ c < 65536 ∧ mm8 c = 2 ∧ enc1 c = [224 + c / 4096, 128 + c / 64 % 64, 128 + c % 64]) ∨
    (65536 ≤ c ∧ mm8 c = 3 ∧ enc1 c = [240 + c / 262144, 128 + c / 4096 % 64, 128 + c / 64 % 64, 128 + c % 64]) := by
  have h0 : ¬ c < 128 := by omega
  by_cases c1 : c < 2048
  · refine .inl ⟨c1, if_pos c1, ?_⟩
    unfold enc1
    rw [if_neg h0, if_pos c1]
  · by_cases c2 : c < 65536
    · refine .inr (.inl ⟨by omega, c2, ?_, ?_⟩)
      · unfold mm8
        rw [if_neg c1, if_pos c2]
      · unfold enc1
        rw [if_neg h0, if_neg c1, if_pos c2]
    · refine .inr (.inr ⟨by omega, ?_, ?_⟩)
      · unfold mm8
        rw [if_neg c1, if_neg c2]
      · unfold enc1
        rw [if_neg h0, if_neg c1, if_neg c2]
theorem long_zero {c : Int} (hc : 128 ≤ c) : [mark8 (mm8 c) + c / 2 ^ (6 * mm8 c).toNat] = (enc1 c).take 1 := by
  rcases enc_long hc with ⟨_, e1, e2⟩ | ⟨_, _, e1, e2⟩ | ⟨_, e1, e2⟩ <;> rw [e1, e2] <;> rfl
theorem long_step {c : Int} {i : Nat} (hc : 128 ≤ c) (hi : i < (mm8 c).toNat) : (enc1 c).take (i + 1) ++ [128 + c / 2 ^ (6 * mm8 c - 6 + (i : Int) * (-6)).toNat % 64] = (enc1 c).take (i + 2) := by
  rcases enc_long hc with ⟨_, e1, e2⟩ | ⟨_, _, e1, e2⟩ | ⟨_, e1, e2⟩
  · rw [e1] at hi ⊢
    rw [e2]
    have e : i = 0 := by
      have : i < 1 := hi
      omega
    subst e
    show [192 + c / 64, 128 + c / 1 % 64] = [192 + c / 64, 128 + c % 64]
    rw [Int.ediv_one]
  · rw [e1] at hi ⊢
    rw [e2]
    have e : i = 0 ∨ i = 1 := by
      have : i < 2 := hi
      omega
    rcases e with e | e
    · subst e
      rfl
    · subst e
      show [224 + c / 4096, 128 + c / 64 % 64, 128 + c / 1 % 64] = [224 + c / 4096, 128 + c / 64 % 64, 128 + c % 64]
      rw [Int.ediv_one]
  · rw [e1] at hi ⊢
    rw [e2]
    have e : i = 0 ∨ i = 1 ∨ i = 2 := by
      have : i < 3 := hi
      omega
    rcases e with e | e | e
    · subst e
      rfl
    · subst e
      rfl
    · subst e
      show [240 + c / 262144, 128 + c / 4096 % 64, 128 + c / 64 % 64, 128 + c / 1 % 64] = [240 + c / 262144, 128 + c / 4096 % 64, 128 + c / 64 % 64, 128 + c % 64]
      rw [Int.ediv_one]
theorem long_all {c : Int} (hc : 128 ≤ c) : (enc1 c).take ((mm8 c).toNat + 1) = enc1 c := by
  rcases enc_long hc with ⟨_, e1, e2⟩ | ⟨_, _, e1, e2⟩ | ⟨_, e1, e2⟩ <;> rw [e1, e2] <;> rfl
theorem mark8_at (m : Int) (h : m = 1 ∨ m = 2 ∨ m = 3) : atI ([0, 192, 224, 240].map V.int) m = some (.int (mark8 m)) := by
  rcases h with e | e | e <;> rw [e] <;> rfl
theorem rows8_m : ∀ r ∈ rows8, r.m = 1 ∨ r.m = 2 ∨ r.m = 3 := by decide
theorem len_enc1 (c : Int) : 1 ≤ (enc1 c).length ∧ (enc1 c).length ≤ 4 := by
  by_cases h : c < 128
  · rw [enc_low h]
    simp
  · rcases enc_long (by omega : 128 ≤ c) with ⟨_, _, e2⟩ | ⟨_, _, _, e2⟩ | ⟨_, _, e2⟩ <;> rw [e2] <;> simp
theorem len_encs : ∀ cs : List Int, (encs cs).length ≤ 4 * cs.length
  | [] => Nat.le_refl _
  | c :: cs => by
    have h := len_encs cs
    have g := (len_enc1 c).2
    show (enc1 c ++ encs cs).length ≤ _
    rw [List.length_append, List.length_cons]
    omega
theorem encs_snoc (cs : List Int) (c : Int) : encs (cs ++ [c]) = encs cs ++ enc1 c := by
  unfold encs
  rw [List.flatMap_append]
  simp
section
variable {P : Program} {w : World} {K : PySem.W.Frag} {mg : Str → Option Value} {base : Heap} {f : Addr} {fd : FuncData}
theorem ok_Utf8__begin (F : FunD K "_begin" "Utf8._begin" (defArgs s_Utf8__begin) (defBody s_Utf8__begin) (defScope s_Utf8__begin) [] [] (meAd "Utf8" "_begin" K) fd) (nb : Nm K mg) : Met P w K mg base 1 (C_Utf8 K) "_begin" (sp_Utf8__begin K) [] := by
  obtain ⟨v_FIRSTS, u_FIRSTS, e_FIRSTS, r_FIRSTS, k_FIRSTS⟩ := nb.g_FIRSTS
  obtain ⟨v_MARKS, u_MARKS, e_MARKS, r_MARKS, k_MARKS⟩ := nb.g_MARKS
  refine metD F nb.cl_Utf8 nb.me_Utf8__begin sc_Utf8__begin (fun _ _ _ _ _ _ us hl => match us, hl with | [_, _], _ => rfl) len2 (fun cdv A outer s H vs Q E hr h => ⟨_, (pss_cons (ps_for PassesOwn.never rfl (pi_tup (pe_gc rfl ⟨u_FIRSTS, e_FIRSTS, r_FIRSTS⟩)) (pg_tup rfl (pgs_cons (pg_name (i := 2) sc_Utf8__begin.nd rfl (Or.inl rfl)) (pgs_cons (pg_name (i := 3) sc_Utf8__begin.nd rfl (Or.inl rfl)) (pgs_cons (pg_name (i := 4) sc_Utf8__begin.nd rfl (Or.inl rfl)) (pgs_cons (pg_name (i := 5) sc_Utf8__begin.nd rfl (Or.inl rfl)) (pgs_cons (pg_name (i := 6) sc_Utf8__begin.nd rfl (Or.inl rfl)) pgs_nil))))))
    (pss_one (ps_if (pt_chain op_le op_le (pv 2) (pv 1) (pv 3))
    (pss_cons (ps_fld (pv 0) (pv 4) rfl)
    (pss_cons (ps_fld (pv 0) (pe_op op_sub (pv 1) (pe_ix ix_tup (pe_gc rfl ⟨u_MARKS, e_MARKS, r_MARKS⟩) (pv 4) (fun _ _ => rfl))) rfl)
    (pss_cons (ps_fld (pv 0) (pv 5) rfl)
    (pss_cons (ps_fld (pv 0) (pv 6) rfl)
    (pss_one (ps_ret pe_bl))))))
    pss_nil)))
    (pss_one (ps_ret pe_bl))), ?_⟩)
  obtain ⟨_, _, rfl, a, l, s, b, rfl, rfl, hU, hl, h⟩ := h
  have hne := u8_ne hU
  obtain ⟨dx, hA, hL⟩ := id hU
  obtain ⟨tf, xs, rfl, hT, hD⟩ := dp_tup (k_FIRSTS H)
  have hD : DpAll K H xs (rows8.map U8R.dat) := hD
  have eN : xs.length = rows8.length := by rw [dp_len hD, List.length_map]
  walk_at "rd"
  refine r_itT ?_
  walk_at "rd"
  refine ⟨tf, rfl, ⟨xs, hT⟩, r_eachT (xs := xs) (fun i σ H' => H = H' ∧ (∀ j row, j < i → rows8[j]? = some row → row.is b = false) ∧ ∃ y1 y2 y3 y4 y5, σ = [some (.ref a), some (.int b), y1, y2, y3, y4, y5])
    ⟨rfl, fun j row h => absurd h (Nat.not_lt_zero _), _, _, _, _, _, rfl⟩ ?_ ?_ ?_⟩
  · rintro i σ _ ⟨rfl, _⟩
    exact hT
  · rintro i x σ _ hx ⟨rfl, hj, y1, y2, y3, y4, y5, rfl⟩
    obtain ⟨d, hd, hxd⟩ := dp_get hD hx
    rw [List.getElem?_map] at hd
    obtain ⟨row, hrow, rfl⟩ := Option.map_eq_some_iff.mp hd
    obtain ⟨tr, zs, rfl, hr, hz⟩ := dp_tup (show Dp K H x (.tuple ([row.f, row.l, row.m, row.le, row.mo].map PyData.int)) from hxd)
    have hz := dp_ints _ hz
    subst hz
    have hm := rows8_m row (List.mem_of_getElem? hrow)
    have hr : SqT K H tr [.int row.f, .int row.l, .int row.m, .int row.le, .int row.mo] := hr
    refine r_gtup hr rfl ?_
    walk_at "rd"
    refine r_ite (fun c1 => ?_) (fun c1 => ?_)
    · walk_at "rd"
      refine r_ite (fun c2 => ?_) (fun c2 => ?_)
      · have hf : rows8.find? (·.is b) = some row := by
          obtain ⟨hi, ei⟩ := List.getElem?_eq_some_iff.mp hrow
          refine List.find?_eq_some_iff_getElem.mpr ⟨?_, i, hi, ei, fun j hji => ?_⟩
          · exact decide_eq_true ⟨c1, c2⟩
          · rw [hj j _ hji (List.getElem?_eq_getElem (Nat.lt_trans hji hi))]
            rfl
        have e : u8start s b = (true, ⟨s.ps, row.m, b - mark8 row.m, row.le, row.mo⟩) := by
          unfold u8start
          rw [hf]
        rw [e] at h
        walk_at "rd"
        refine r_fsetK hA nb.cl_Utf8 nb.na_Utf8__missing (few_Utf8) pt_Utf8__missing fun H1 hA1 f1 => ?_
        obtain ⟨tm, ys, rfl, hM, hE⟩ := dp_tup (k_MARKS H1)
        have hE : ys = [0, 192, 224, 240].map V.int := dp_ints _ hE
        subst hE
        walk_at "rd"
        refine r_ixT hM (mark8_at row.m hm) ?_
        walk_at "rd"
        refine r_fsetK hA1 nb.cl_Utf8 nb.na_Utf8__worth (few_Utf8) pt_Utf8__worth fun H2 hA2 f2 => ?_
        walk_at "rd"
        refine r_fsetK hA2 nb.cl_Utf8 nb.na_Utf8__least (few_Utf8) pt_Utf8__least fun H3 hA3 f3 => ?_
        walk_at "rd"
        refine r_fsetK hA3 nb.cl_Utf8 nb.na_Utf8__most (few_Utf8) pt_Utf8__most fun H4 hA4 f4 => ?_
        walk_at "rd"
        refine h H4 ⟨dx, hA4, ?_⟩ fun p u p1 p2 z => ?_
        · rw [f4 l hne, f3 l hne, f2 l hne, f1 l hne]
          exact hL
        · rw [f4 p p1, f3 p p1, f2 p p1, f1 p p1]
          exact z
      · walk_at "rd"
        refine ⟨rfl, fun j row' hji hr' => ?_, _, _, _, _, _, rfl⟩
        by_cases e : j = i
        · subst e
          rw [hrow] at hr'
          cases hr'
          exact decide_eq_false fun z => c2 z.2
        · exact hj j row' (by omega) hr'
    · walk_at "rd"
      refine ⟨rfl, fun j row' hji hr' => ?_, _, _, _, _, _, rfl⟩
      by_cases e : j = i
      · subst e
        rw [hrow] at hr'
        cases hr'
        exact decide_eq_false fun z => c1 z.1
      · exact hj j row' (by omega) hr'
  · rintro σ _ ⟨rfl, hj, y1, y2, y3, y4, y5, rfl⟩
    have hf : rows8.find? (·.is b) = none := by
      refine List.find?_eq_none.mpr fun row hr => ?_
      obtain ⟨j, hjl, ej⟩ := List.getElem_of_mem hr
      rw [hj j row (by rw [eN]; exact hjl) (by rw [List.getElem?_eq_getElem hjl, ej])]
      decide
    have e : u8start s b = (false, s) := by
      unfold u8start
      rw [hf]
    rw [e] at h
    walk_at "rd"
    exact h H hU fun _ _ _ _ z => z
theorem row_same {H H' : Hp} {a : Addr} {zs : List Int} (h : RowAt H a zs) (s : Same H H') : RowAt H' a zs := h.elim (fun h => .inl (s _ _ h)) fun h => .inr (s _ _ h)
theorem ints_get {cs : List Int} {i : Nat} {x : V} (e : (cs.map V.int)[i]? = some x) : ∃ c, cs[i]? = some c ∧ x = .int c ∧ cs.take (i + 1) = cs.take i ++ [c] := by
  rw [List.getElem?_map] at e
  obtain ⟨c, h, rfl⟩ := Option.map_eq_some_iff.mp e
  refine ⟨c, h, rfl, ?_⟩
  rw [List.take_succ, h]
  rfl
theorem ints_step {cs : List Int} {i : Nat} {c : Int} (h : cs[i]? = some c) : cs.take (i + 1) = cs.take i ++ [c] := by
  rw [List.take_succ, h]
  rfl
/-- a for over a row, list or tuple -/
theorem r_eachRow {σ : St} {H : Hp} {n : St → Hp → Prop} {r : VK} {K : PySem.W.Frag} {k : Nat} {g : TG} {tb : TS} {a : Addr} {zs : List Int} (e : σ[k]? = some (some (.ref a))) (hR : RowAt H a zs) (Pv : Nat → St → Hp → Prop) (h0 : Pv 0 σ H) (hl : ∀ i σ H', Pv i σ H' → ∀ u, H a = some u → H' a = some u)
    (hs : ∀ (i : Nat) (z : Int) σ H', zs[i]? = some z → Pv i σ H' → g (.int z) σ H' fun σ2 H2 => tb ⟨Pv (i + 1), r, n, Pv (i + 1)⟩ σ2 H2) (hd : ∀ σ H', Pv zs.length σ H' → n σ H') :
    (iList K (tVar k) σ H fun J H1 => ∃ W : Nat → Nat → St → Hp → Prop, (∃ m, W 0 m σ H1) ∧ ∀ i m σ H, W i m σ H →
    (J.stop i H ∧ n σ H) ∨ (J.go i H ∧ ∃ N : St → Hp → Prop, (∀ σ' H', N σ' H' → ∃ m', m' < m ∧ W (i + 1) m' σ' H') ∧ ∀ x H', J.yld i H x H' → g x σ H' fun σ2 H2 => tb ⟨N, r, n, N⟩ σ2 H2)) ∨
    (iTup K (tVar k) σ H fun J H1 => ∃ W : Nat → Nat → St → Hp → Prop, (∃ m, W 0 m σ H1) ∧ ∀ i m σ H, W i m σ H →
    (J.stop i H ∧ n σ H) ∨ (J.go i H ∧ ∃ N : St → Hp → Prop, (∀ σ' H', N σ' H' → ∃ m', m' < m ∧ W (i + 1) m' σ' H') ∧ ∀ x H', J.yld i H x H' → g x σ H' fun σ2 H2 => tb ⟨N, r, n, N⟩ σ2 H2)) := by
  have st : ∀ (i : Nat) (x : V) σ H', (zs.map V.int)[i]? = some x → Pv i σ H' → g x σ H' fun σ2 H2 => tb ⟨Pv (i + 1), r, n, Pv (i + 1)⟩ σ2 H2 := fun i x σ H' e p => by
    obtain ⟨c, h1, rfl, _⟩ := ints_get e
    exact hs i c σ H' h1 p
  rcases hR with q | q
  · have hd' : ∀ σ H', Pv (zs.map V.int).length σ H' → n σ H' := by
      rw [List.length_map]
      exact hd
    exact .inl (r_itL ⟨_, e, a, rfl, ⟨_, SqL.of q⟩, r_eachL Pv h0 (fun i σ H' p => SqL.of (hl i σ H' p _ q)) st hd'⟩)
  · have hd' : ∀ σ H', Pv (zs.map V.int).length σ H' → n σ H' := by
      rw [List.length_map]
      exact hd
    exact .inr (r_itT ⟨_, e, a, rfl, ⟨_, SqT.of q⟩, r_eachT Pv h0 (fun i σ H' p => SqT.of (hl i σ H' p _ q)) st hd'⟩)
/-- .. with the numbers of the turns -/
theorem r_enumRow {σ : St} {H : Hp} {n : St → Hp → Prop} {r : VK} {K : PySem.W.Frag} {k : Nat} {g : TG} {tb : TS} {a : Addr} {zs : List Int} (e : σ[k]? = some (some (.ref a))) (hR : RowAt H a zs) (Pv : Nat → St → Hp → Prop) (h0 : Pv 0 σ H) (hl : ∀ i σ H', Pv i σ H' → ∀ u, H a = some u → H' a = some u)
    (hs : ∀ (i : Nat) (z : Int) σ H' T, zs[i]? = some z → Pv i σ H' → H' T = none → g (.ref T) σ (upd H' T (.tup [.int (i : Nat), .int z])) fun σ2 H2 => tb ⟨Pv (i + 1), r, n, Pv (i + 1)⟩ σ2 H2) (hd : ∀ σ H', Pv zs.length σ H' → n σ H') :
    (iEnum K (tCons (tVar k) tNil) σ H fun J H1 => ∃ W : Nat → Nat → St → Hp → Prop, (∃ m, W 0 m σ H1) ∧ ∀ i m σ H, W i m σ H →
    (J.stop i H ∧ n σ H) ∨ (J.go i H ∧ ∃ N : St → Hp → Prop, (∀ σ' H', N σ' H' → ∃ m', m' < m ∧ W (i + 1) m' σ' H') ∧ ∀ x H', J.yld i H x H' → g x σ H' fun σ2 H2 => tb ⟨N, r, n, N⟩ σ2 H2)) ∨
    (iEnumT K (tCons (tVar k) tNil) σ H fun J H1 => ∃ W : Nat → Nat → St → Hp → Prop, (∃ m, W 0 m σ H1) ∧ ∀ i m σ H, W i m σ H →
    (J.stop i H ∧ n σ H) ∨ (J.go i H ∧ ∃ N : St → Hp → Prop, (∀ σ' H', N σ' H' → ∃ m', m' < m ∧ W (i + 1) m' σ' H') ∧ ∀ x H', J.yld i H x H' → g x σ H' fun σ2 H2 => tb ⟨N, r, n, N⟩ σ2 H2)) := by
  have st : ∀ (i : Nat) (x : V) σ H' T, (zs.map V.int)[i]? = some x → Pv i σ H' → H' T = none → g (.ref T) σ (upd H' T (.tup [.int (i : Nat), x])) fun σ2 H2 => tb ⟨Pv (i + 1), r, n, Pv (i + 1)⟩ σ2 H2 := fun i x σ H' T e p t => by
    obtain ⟨c, h1, rfl, _⟩ := ints_get e
    exact hs i c σ H' T h1 p t
  have hd' : ∀ σ H', Pv (zs.map V.int).length σ H' → n σ H' := by
    rw [List.length_map]
    exact hd
  rcases hR with q | q
  · exact .inl (r_itE ⟨_, e, a, _, rfl, SqL.of q, r_eachE Pv h0 (fun i σ H' p => SqL.of (hl i σ H' p _ q)) st hd'⟩)
  · exact .inr (r_itET ⟨_, e, a, _, rfl, SqT.of q, r_eachET Pv h0 (fun i σ H' p => SqT.of (hl i σ H' p _ q)) st hd'⟩)
end

def u8run (s : U8) : List Int → Option U8
  | [] => some s
  | b :: bs => if (u8take s b).1 = true then u8run (u8take s b).2 bs else none
theorem u8run_snoc : ∀ (zs : List Int) (s t : U8) (z : Int), u8run s zs = some t → (u8take t z).1 = true → u8run s (zs ++ [z]) = some (u8take t z).2
  | [], s, t, z, h, e => by
    cases h
    show (if (u8take s z).1 = true then some (u8take s z).2 else none) = _
    rw [if_pos e]
  | b :: bs, s, t, z, h, e => by
    unfold u8run at h
    show (if (u8take s b).1 = true then u8run (u8take s b).2 (bs ++ [z]) else none) = _
    by_cases c : (u8take s b).1 = true
    · rw [if_pos c] at h ⊢
      exact u8run_snoc bs _ t z h e
    · rw [if_neg c] at h
      cases h
theorem u8run_app : ∀ (l rest : List Int) (S : Nat → U8), (∀ k b, l[k]? = some b → u8take (S k) b = (true, S (k + 1))) → u8run (S 0) (l ++ rest) = u8run (S l.length) rest
  | [], rest, S, _ => rfl
  | b :: bs, rest, S, h => by
    have e := h 0 b rfl
    show (if (u8take (S 0) b).1 = true then u8run (u8take (S 0) b).2 (bs ++ rest) else none) = _
    rw [e, if_pos rfl]
    exact u8run_app bs rest (fun k => S (k + 1)) fun k b' hb => h (k + 1) b' hb
theorem len_if {p : Prop} [Decidable p] (ps : List Int) (x : Int) : (if p then ps ++ [x] else ps).length ≤ ps.length + 1 := by
  split
  · simp
  · omega
theorem u8take_len (s : U8) (b : Int) : (u8take s b).2.ps.length ≤ s.ps.length + 1 := by
  unfold u8take
  split
  · unfold u8go
    split
    · exact len_if s.ps _
    · exact Nat.le_succ _
  · split
    · show (s.ps ++ [b]).length ≤ _
      simp
    · unfold u8start
      split
      · exact Nat.le_succ _
      · exact Nat.le_succ _
theorem rows8_up : ∀ i < 8, ∀ j < i, ∀ r q, rows8[i]? = some r → rows8[j]? = some q → q.l < r.f := by
  intro i hi j hj r q h1 h2
  have e : (i = 0 ∨ i = 1 ∨ i = 2 ∨ i = 3 ∨ i = 4 ∨ i = 5 ∨ i = 6 ∨ i = 7) := by omega
  have e' : (j = 0 ∨ j = 1 ∨ j = 2 ∨ j = 3 ∨ j = 4 ∨ j = 5 ∨ j = 6 ∨ j = 7) := by omega
  rcases e with e | e | e | e | e | e | e | e <;> subst e <;> cases h1 <;> (rcases e' with e | e | e | e | e | e | e | e <;> subst e <;> cases h2 <;> first | decide | (exfalso; omega))
theorem u8start_eq (s : U8) (b : Int) (i : Nat) (r : U8R) (hi : rows8[i]? = some r) (h : r.f ≤ b ∧ b ≤ r.l) : u8start s b = (true, ⟨s.ps, r.m, b - mark8 r.m, r.le, r.mo⟩) := by
  have hf : rows8.find? (·.is b) = some r := by
    obtain ⟨hl, ei⟩ := List.getElem?_eq_some_iff.mp hi
    refine List.find?_eq_some_iff_getElem.mpr ⟨decide_eq_true h, i, hl, ei, fun j hj => ?_⟩
    have := rows8_up i hl j hj r rows8[j] hi (List.getElem?_eq_getElem (Nat.lt_trans hj hl))
    have e : U8R.is rows8[j] b = false := decide_eq_false (by omega)
    rw [e]
    rfl
  unfold u8start
  rw [hf]
def oc0 (c : Int) : Int := if c < 2048 then 192 + c / 64 else if c < 65536 then 224 + c / 4096 else 240 + c / 262144
def oc1 (c : Int) : Int := if c < 2048 then 128 + c % 64 else if c < 65536 then 128 + c / 64 % 64 else 128 + c / 4096 % 64
theorem row_of {c : Int} (hc : 128 ≤ c) (hP : Point c) : ∃ (i : Nat) (r : U8R), rows8[i]? = some r ∧ (r.f ≤ oc0 c ∧ oc0 c ≤ r.l) ∧ r.m = mm8 c ∧ r.le ≤ oc1 c ∧ oc1 c ≤ r.mo := by
  obtain ⟨p1, p2, p3⟩ := hP
  unfold oc0 oc1 mm8
  by_cases c1 : c < 2048
  · rw [if_pos c1, if_pos c1, if_pos c1]
    exact ⟨0, _, rfl, ⟨by show (194 : Int) ≤ _; omega, by show _ ≤ (223 : Int); omega⟩, rfl, by show (128 : Int) ≤ _; omega, by show _ ≤ (191 : Int); omega⟩
  rw [if_neg c1, if_neg c1, if_neg c1]
  by_cases c2 : c < 65536
  · rw [if_pos c2, if_pos c2, if_pos c2]
    by_cases d1 : c < 4096
    · exact ⟨1, _, rfl, ⟨by show (224 : Int) ≤ _; omega, by show _ ≤ (224 : Int); omega⟩, rfl, by show (160 : Int) ≤ _; omega, by show _ ≤ (191 : Int); omega⟩
    by_cases d2 : c < 53248
    · exact ⟨2, _, rfl, ⟨by show (225 : Int) ≤ _; omega, by show _ ≤ (236 : Int); omega⟩, rfl, by show (128 : Int) ≤ _; omega, by show _ ≤ (191 : Int); omega⟩
    by_cases d3 : c < 57344
    · exact ⟨3, _, rfl, ⟨by show (237 : Int) ≤ _; omega, by show _ ≤ (237 : Int); omega⟩, rfl, by show (128 : Int) ≤ _; omega, by show _ ≤ (159 : Int); omega⟩
    · exact ⟨4, _, rfl, ⟨by show (238 : Int) ≤ _; omega, by show _ ≤ (239 : Int); omega⟩, rfl, by show (128 : Int) ≤ _; omega, by show _ ≤ (191 : Int); omega⟩
  · rw [if_neg c2, if_neg c2, if_neg c2]
    by_cases d1 : c < 262144
    · exact ⟨5, _, rfl, ⟨by show (240 : Int) ≤ _; omega, by show _ ≤ (240 : Int); omega⟩, rfl, by show (144 : Int) ≤ _; omega, by show _ ≤ (191 : Int); omega⟩
    by_cases d2 : c < 1048576
    · exact ⟨6, _, rfl, ⟨by show (241 : Int) ≤ _; omega, by show _ ≤ (243 : Int); omega⟩, rfl, by show (128 : Int) ≤ _; omega, by show _ ≤ (191 : Int); omega⟩
    · exact ⟨7, _, rfl, ⟨by show (244 : Int) ≤ _; omega, by show _ ≤ (244 : Int); omega⟩, rfl, by show (128 : Int) ≤ _; omega, by show _ ≤ (143 : Int); omega⟩
theorem take_start {s : U8} {b : Int} (h0 : s.ms = 0) (h1 : 128 ≤ b) : u8take s b = u8start s b := by
  unfold u8take
  rw [if_neg (by omega), if_neg (by omega)]
theorem take_go {s : U8} {b : Int} (h0 : 0 < s.ms) (h1 : s.le ≤ b ∧ b ≤ s.mo) : u8take s b = (true, ⟨if s.ms - 1 = 0 then s.ps ++ [s.wo * 64 + b - 128] else s.ps, s.ms - 1, s.wo * 64 + b - 128, 128, 191⟩) := by
  unfold u8take u8go
  rw [if_pos h0, if_pos h1]
theorem take_low {s : U8} {b : Int} (h0 : s.ms = 0) (h1 : b < 128) : u8take s b = (true, { s with ps := s.ps ++ [b] }) := by
  unfold u8take
  rw [if_neg (by omega), if_pos h1]
theorem mid_of {w b : Int} : (128 : Int) ≤ 128 + w % 64 ∧ 128 + w % 64 ≤ 191 := by omega
/-- the states over one character's octets -/
theorem u8char {c : Int} (hP : Point c) (s : U8) (h0 : s.ms = 0) : ∃ S : Nat → U8, S 0 = s ∧ (∀ k b, (enc1 c)[k]? = some b → u8take (S k) b = (true, S (k + 1))) ∧ (S (enc1 c).length).ms = 0 ∧ (S (enc1 c).length).ps = s.ps ++ [c] ∧
    ∀ k, k < (enc1 c).length → (S k).ps = s.ps ∧ (0 < k → 0 < (S k).ms) := by
  by_cases hc : c < 128
  · rw [enc_low hc]
    refine ⟨fun k => match k with | 0 => s | _ => { s with ps := s.ps ++ [c] }, rfl, fun k b hb => ?_, h0, rfl, fun k hk => ?_⟩
    · match k, hb with
      | 0, hb =>
        cases hb
        exact take_low h0 hc
      | k + 1, hb => cases hb
    · match k, hk with
      | 0, _ => exact ⟨rfl, fun h => absurd h (by decide)⟩
      | k + 1, hk => exact absurd hk (by simp)
  have hc : 128 ≤ c := by omega
  obtain ⟨i, r, hr, hf, hm, hl, hmo⟩ := row_of hc hP
  have hP1 := hP.1
  have hP2 := hP.2.1
  rcases enc_long hc with ⟨c1, e1, e2⟩ | ⟨c1, c2, e1, e2⟩ | ⟨c1, e1, e2⟩
  · have o0 : oc0 c = 192 + c / 64 := if_pos c1
    have o1 : oc1 c = 128 + c % 64 := if_pos c1
    rw [o0] at hf
    rw [o1] at hl hmo
    rw [e1] at hm
    rw [e2]
    have t0 := (take_start (b := 192 + c / 64) h0 (by omega)).trans (u8start_eq s (192 + c / 64) i r hr hf)
    rw [hm] at t0
    have t1 := take_go (s := ⟨s.ps, 1, 192 + c / 64 - mark8 1, r.le, r.mo⟩) (b := 128 + c % 64) (by show (0 : Int) < 1; decide) ⟨hl, hmo⟩
    refine ⟨fun k => match k with | 0 => s | 1 => ⟨s.ps, 1, 192 + c / 64 - mark8 1, r.le, r.mo⟩ | _ => ⟨s.ps ++ [(192 + c / 64 - mark8 1) * 64 + (128 + c % 64) - 128], 0, (192 + c / 64 - mark8 1) * 64 + (128 + c % 64) - 128, 128, 191⟩, rfl, fun k b hb => ?_, rfl, ?_, fun k hk => ?_⟩
    · match k, hb with
      | 0, hb =>
        cases hb
        exact t0
      | 1, hb =>
        cases hb
        exact t1
      | k + 2, hb => cases hb
    · show s.ps ++ [(192 + c / 64 - 192) * 64 + (128 + c % 64) - 128] = _
      rw [show (192 + c / 64 - 192) * 64 + (128 + c % 64) - 128 = c by omega]
    · match k, hk with
      | 0, _ => exact ⟨rfl, fun h => absurd h (by decide)⟩
      | 1, _ => exact ⟨rfl, fun h => by show (0 : Int) < 1; decide⟩
      | k + 2, hk => exact absurd hk (by simp)
  · have o0 : oc0 c = 224 + c / 4096 := by
      unfold oc0
      rw [if_neg (by omega), if_pos c2]
    have o1 : oc1 c = 128 + c / 64 % 64 := by
      unfold oc1
      rw [if_neg (by omega), if_pos c2]
    rw [o0] at hf
    rw [o1] at hl hmo
    rw [e1] at hm
    rw [e2]
    have t0 := (take_start (b := 224 + c / 4096) h0 (by omega)).trans (u8start_eq s (224 + c / 4096) i r hr hf)
    rw [hm] at t0
    have t1 := take_go (s := ⟨s.ps, 2, 224 + c / 4096 - mark8 2, r.le, r.mo⟩) (b := 128 + c / 64 % 64) (by show (0 : Int) < 2; decide) ⟨hl, hmo⟩
    have t2 := take_go (s := ⟨s.ps, 1, (224 + c / 4096 - mark8 2) * 64 + (128 + c / 64 % 64) - 128, 128, 191⟩) (b := 128 + c % 64) (by show (0 : Int) < 1; decide) ⟨by show (128 : Int) ≤ _; omega, by show _ ≤ (191 : Int); omega⟩
    refine ⟨fun k => match k with | 0 => s | 1 => ⟨s.ps, 2, 224 + c / 4096 - mark8 2, r.le, r.mo⟩ | 2 => ⟨s.ps, 1, (224 + c / 4096 - mark8 2) * 64 + (128 + c / 64 % 64) - 128, 128, 191⟩ | _ => ⟨s.ps ++ [((224 + c / 4096 - mark8 2) * 64 + (128 + c / 64 % 64) - 128) * 64 + (128 + c % 64) - 128], 0, ((224 + c / 4096 - mark8 2) * 64 + (128 + c / 64 % 64) - 128) * 64 + (128 + c % 64) - 128, 128, 191⟩, rfl, fun k b hb => ?_, rfl, ?_, fun k hk => ?_⟩
    · match k, hb with
      | 0, hb =>
        cases hb
        exact t0
      | 1, hb =>
        cases hb
        exact t1
      | 2, hb =>
        cases hb
        exact t2
      | k + 3, hb => cases hb
    · show s.ps ++ [((224 + c / 4096 - 224) * 64 + (128 + c / 64 % 64) - 128) * 64 + (128 + c % 64) - 128] = _
      rw [show ((224 + c / 4096 - 224) * 64 + (128 + c / 64 % 64) - 128) * 64 + (128 + c % 64) - 128 = c by omega]
    · match k, hk with
      | 0, _ => exact ⟨rfl, fun h => absurd h (by decide)⟩
      | 1, _ => exact ⟨rfl, fun h => by show (0 : Int) < 2; decide⟩
      | 2, _ => exact ⟨rfl, fun h => by show (0 : Int) < 1; decide⟩
      | k + 3, hk => exact absurd hk (by simp)
  · have o0 : oc0 c = 240 + c / 262144 := by
      unfold oc0
      rw [if_neg (by omega), if_neg (by omega)]
    have o1 : oc1 c = 128 + c / 4096 % 64 := by
      unfold oc1
      rw [if_neg (by omega), if_neg (by omega)]
    rw [o0] at hf
    rw [o1] at hl hmo
    rw [e1] at hm
    rw [e2]
    have t0 := (take_start (b := 240 + c / 262144) h0 (by omega)).trans (u8start_eq s (240 + c / 262144) i r hr hf)
    rw [hm] at t0
    have t1 := take_go (s := ⟨s.ps, 3, 240 + c / 262144 - mark8 3, r.le, r.mo⟩) (b := 128 + c / 4096 % 64) (by show (0 : Int) < 3; decide) ⟨hl, hmo⟩
    have t2 := take_go (s := ⟨s.ps, 2, (240 + c / 262144 - mark8 3) * 64 + (128 + c / 4096 % 64) - 128, 128, 191⟩) (b := 128 + c / 64 % 64) (by show (0 : Int) < 2; decide) ⟨by show (128 : Int) ≤ _; omega, by show _ ≤ (191 : Int); omega⟩
    have t3 := take_go (s := ⟨s.ps, 1, ((240 + c / 262144 - mark8 3) * 64 + (128 + c / 4096 % 64) - 128) * 64 + (128 + c / 64 % 64) - 128, 128, 191⟩) (b := 128 + c % 64) (by show (0 : Int) < 1; decide) ⟨by show (128 : Int) ≤ _; omega, by show _ ≤ (191 : Int); omega⟩
    refine ⟨fun k => match k with | 0 => s | 1 => ⟨s.ps, 3, 240 + c / 262144 - mark8 3, r.le, r.mo⟩ | 2 => ⟨s.ps, 2, (240 + c / 262144 - mark8 3) * 64 + (128 + c / 4096 % 64) - 128, 128, 191⟩ | 3 => ⟨s.ps, 1, ((240 + c / 262144 - mark8 3) * 64 + (128 + c / 4096 % 64) - 128) * 64 + (128 + c / 64 % 64) - 128, 128, 191⟩ | _ => ⟨s.ps ++ [(((240 + c / 262144 - mark8 3) * 64 + (128 + c / 4096 % 64) - 128) * 64 + (128 + c / 64 % 64) - 128) * 64 + (128 + c % 64) - 128], 0, (((240 + c / 262144 - mark8 3) * 64 + (128 + c / 4096 % 64) - 128) * 64 + (128 + c / 64 % 64) - 128) * 64 + (128 + c % 64) - 128, 128, 191⟩, rfl, fun k b hb => ?_, rfl, ?_, fun k hk => ?_⟩
    · match k, hb with
      | 0, hb =>
        cases hb
        exact t0
      | 1, hb =>
        cases hb
        exact t1
      | 2, hb =>
        cases hb
        exact t2
      | 3, hb =>
        cases hb
        exact t3
      | k + 4, hb => cases hb
    · show s.ps ++ [(((240 + c / 262144 - 240) * 64 + (128 + c / 4096 % 64) - 128) * 64 + (128 + c / 64 % 64) - 128) * 64 + (128 + c % 64) - 128] = _
      rw [show (((240 + c / 262144 - 240) * 64 + (128 + c / 4096 % 64) - 128) * 64 + (128 + c / 64 % 64) - 128) * 64 + (128 + c % 64) - 128 = c by omega]
    · match k, hk with
      | 0, _ => exact ⟨rfl, fun h => absurd h (by decide)⟩
      | 1, _ => exact ⟨rfl, fun h => by show (0 : Int) < 3; decide⟩
      | 2, _ => exact ⟨rfl, fun h => by show (0 : Int) < 2; decide⟩
      | 3, _ => exact ⟨rfl, fun h => by show (0 : Int) < 1; decide⟩
      | k + 4, hk => exact absurd hk (by simp)
theorem u8run_encs : ∀ (cs : List Int) (s : U8), (∀ c ∈ cs, Point c) → s.ms = 0 → ∃ t, u8run s (encs cs) = some t ∧ t.ms = 0 ∧ t.ps = s.ps ++ cs
  | [], s, _, h0 => ⟨s, rfl, h0, (List.append_nil _).symm⟩
  | c :: cs, s, hc, h0 => by
    obtain ⟨S, e0, hS, hm, hp, _⟩ := u8char (hc c (List.mem_cons_self ..)) s h0
    have e := u8run_app (enc1 c) (encs cs) S hS
    rw [e0] at e
    obtain ⟨t, h1, h2, h3⟩ := u8run_encs cs (S (enc1 c).length) (fun c h => hc c (List.mem_cons_of_mem _ h)) hm
    refine ⟨t, e.trans h1, h2, ?_⟩
    rw [h3, hp, List.append_assoc]
    rfl

abbrev s_decode : Stmt := (top 4)
theorem sc_decode : FnScope ["octets", "taker", "index", "octet"] ["octets"] (defScope s_decode) := ⟨rfl, rfl, rfl, by decide +kernel, rfl, by decide +kernel, by decide +kernel⟩
def sp_decode (K : Frg) : Sp := sp1 fun p H Q _ => ∃ a zs, p = .ref a ∧ RowAt H a zs ∧ zs.length < sizeLine ∧
  (∀ s q r H', u8run u80 zs = some s → ¬ s.ms > 0 → H q = none → H r = none → H' q = some (.tup (s.ps.map V.int)) → H' r = some (.tup [.ref q, .non]) → Same H H' → Q (.ref r) H') ∧
  (∀ s r H', u8run u80 zs = some s → s.ms > 0 → H r = none → H' r = some (.tup [.non, .int ((zs.length : Int) - 1)]) → Same H H' → Q (.ref r) H') ∧
  (∀ (i : Nat) s z r H', u8run u80 (zs.take i) = some s → zs[i]? = some z → (u8take s z).1 = false → H r = none → H' r = some (.tup [.non, .int (i : Nat)]) → Same H H' → Q (.ref r) H')
section
variable {P : Program} {w : World} {K : PySem.W.Frag} {mg : Str → Option Value} {base : Heap} {f : Addr} {fd : FuncData}
/-- Utf8() -/
theorem d_u8 {H : Hp} {R : Addr → Hp → Prop} {E : XK} (h : ∀ a l H', H a = none → H l = none → U8At K H' a l u80 → Same H H' → R a H') : ∀ x dx, H x = none → H dx = none → dx ≠ x → sp_Utf8___init__ K (.ref x :: ([] ++ [])) (upd (upd H dx (.own x)) x (.ins (C_Utf8 K) dx [])) (fun v H2 => v = .non ∧ R x H2) E := by
  intro a dx ha hd hne
  refine ⟨_, rfl, a, dx, rfl, upd_same, fun l H' hl hla hU g => ⟨rfl, ?_⟩⟩
  have hl0 : H l = none := by
    rw [upd_ne hla] at hl
    by_cases e : l = dx
    · rw [e] at hl ⊢
      exact hd
    · rw [upd_ne e] at hl
      exact hl
  refine h a l H' ha hl0 hU fun b u z => ?_
  have h1 : b ≠ a := fun e => by
    rw [e, ha] at z
    cases z
  have h2 : b ≠ dx := fun e => by
    rw [e, hd] at z
    cases z
  refine g b u h1 ?_
  rw [upd_ne h1, upd_ne h2]
  exact z
theorem but_same {H0 H H' : Hp} {a l : Addr} (ha : H0 a = none) (hl : H0 l = none) (s : Same H0 H) (b : But a l H H') : Same H0 H' := fun p u z =>
  b p u (fun e => by rw [e, ha] at z; cases z) (fun e => by rw [e, hl] at z; cases z) (s p u z)
theorem u8_new {H : Hp} {a l p : Addr} {s : U8} {o : HO} (h : U8At K H a l s) (hp : H p = none) : U8At K (upd H p o) a l s := by
  obtain ⟨dx, h1, h2⟩ := h
  exact ⟨dx, same_upd hp o _ _ h1, same_upd hp o _ _ h2⟩
theorem ok_decode (F : FunD K "decode" "decode" (defArgs s_decode) (defBody s_decode) (defScope s_decode) [] [] (glAd "decode" K) fd) (m : mg "decode" = some (.ref (glAd "decode" K))) (nb : Nm K mg) (k_Utf8 : Mak P w K mg base 1 "Utf8" (C_Utf8 K) (sp_Utf8___init__ K) []) (p_Utf8_is_open : Prp P w K mg base 1 (C_Utf8 K) "is_open" (sp_Utf8_is_open K)) (m_Utf8_take : Met P w K mg base 2 (C_Utf8 K) "take" (sp_Utf8_take K) []) : Cal P w K mg base 3 "decode" (sp_decode K) [] := by
  refine calD F m sc_decode (fun _ _ _ _ _ _ us hl => match us, hl with | [_], _ => rfl) len1 (fun cdv A outer s H vs Q E hr h => ⟨_, (pss_cons (ps_set (i := 1) sc_decode.nd rfl (Or.inl rfl) (pe_mk0 k_Utf8 hr (by decide) rfl))
    (pss_cons (ps_for PassesOwn.never rfl (pi_or (pi_enum rfl nb.enumerate (pa_cons (pv 0) pa_nil)) (pi_enumT rfl nb.enumerate (pa_cons (pv 0) pa_nil))) (pg_tup rfl (pgs_cons (pg_name (i := 2) sc_decode.nd rfl (Or.inl rfl)) (pgs_cons (pg_name (i := 3) sc_decode.nd rfl (Or.inl rfl)) pgs_nil)))
    (pss_one (ps_if (pt_not (pt_val (pe_mt m_Utf8_take hr (by decide) (pv 1) (pa_cons (pv 3) pa_nil))))
    (pss_one (ps_ret (pe_tup (pa_cons pe_non (pa_cons (pv 2) pa_nil)))))
    pss_nil)))
    (pss_cons (ps_if (pt_val (pe_pr p_Utf8_is_open hr (by decide) (pv 1)))
    (pss_one (ps_ret (pe_tup (pa_cons pe_non (pa_cons (pe_op op_sub (pe_callB call_len_seq (by rfl) nb.len PySem.boot_len (pa_cons (pv 0) pa_nil)) pe_int) pa_nil)))))
    pss_nil)
    (pss_one (ps_ret (pe_tup (pa_cons (pe_callTy call_tuple_of (by rfl) nb.tuple (by decide +kernel) (pa_cons (pe_fld (pv 1) rfl) pa_nil)) (pa_cons pe_non pa_nil)))))))), ?_⟩)
  obtain ⟨_, rfl, a, zs, rfl, hR, hn, hgood, hopen, hbad⟩ := h
  walk_at "rd"
  refine d_u8 fun m l H0 hm hl hU hS => ?_
  have hR0 := row_same hR hS
  walk_at "rd"
  refine r_enumRow rfl hR0 (fun i σ H' => ∃ y y' s, σ = [some (.ref a), some (.ref m), y, y'] ∧ U8At K H' m l s ∧ u8run u80 (zs.take i) = some s ∧ s.ps.length ≤ i ∧ Same H H') ⟨_, _, u80, rfl, hU, rfl, Nat.le_refl _, hS⟩ ?_ ?_ ?_
  · rintro i σ H' ⟨y, y', s, _, _, _, _, g⟩ u z
    rcases hR with q | q
    · have e1 := hS _ _ q
      rw [e1] at z
      cases z
      exact g _ _ q
    · have e1 := hS _ _ q
      rw [e1] at z
      cases z
      exact g _ _ q
  · rintro i z σ H1 T hz ⟨y, y', s, rfl, g1, g2, g3, g4⟩ hT
    have hi := (List.getElem?_eq_some_iff.mp hz).1
    have g5 := u8_new (o := .tup [.int (i : Nat), .int z]) g1 hT
    have g6 := g4.trans (same_upd hT (.tup [.int (i : Nat), .int z]))
    refine r_gtup (SqT.of upd_same) rfl ?_
    generalize upd H1 T (.tup [.int (i : Nat), .int z]) = H2 at g5 g6 ⊢
    walk_at "rd"
    obtain ⟨dx, hA, hL⟩ := id g5
    refine r_mget hA no_Utf8_take ?_
    walk_at "rd"
    refine ⟨_, _, rfl, m, l, s, z, rfl, rfl, g5, by omega, fun H3 hU3 b3 => ?_⟩
    have S3 := but_same hm hl g6 b3
    have e3 := u8take_len s z
    cases hb : (u8take s z).1
    · walk_at "rd"
      refine ⟨by show 2 ≤ sizeLine; decide, fun r hr => ?_⟩
      have hr0 : H r = none := by
        cases e : H r with
        | none => rfl
        | some u => rw [S3 _ _ e] at hr; cases hr
      exact hbad i s z r _ g2 hz hb hr0 upd_same (S3.trans (same_upd hr _))
    · walk_at "rd"
      refine ⟨_, _, _, rfl, hU3, ?_, by omega, S3⟩
      rw [ints_step hz]
      exact u8run_snoc _ _ _ _ g2 hb
  · rintro σ H1 ⟨y, y', s, rfl, g1, g2, g3, g4⟩
    rw [List.take_length] at g2
    walk_at "rd"
    obtain ⟨dx, hA, hL⟩ := id g1
    refine r_pget hA ?_
    refine ⟨_, rfl, m, l, s, rfl, g1, ?_⟩
    walk_at "rd"
    refine r_ite (fun c1 => ?_) (fun c1 => ?_)
    · walk_at "rd"
      refine ⟨a, zs.map V.int, rfl, (row_same hR g4).elim (fun q => .inl (SqL.of q)) (fun q => .inr (SqT.of q)), ?_⟩
      rw [List.length_map]
      walk_at "rd"
      refine ⟨by show 2 ≤ sizeLine; decide, fun r hr => ?_⟩
      have hr0 : H r = none := by
        cases e : H r with
        | none => rfl
        | some u => rw [g4 _ _ e] at hr; cases hr
      exact hopen s r _ g2 c1 hr0 upd_same (g4.trans (same_upd hr _))
    · walk_at "rd"
      refine r_fget hA nb.cl_Utf8 nb.na_Utf8_points lk_Utf8_points ?_
      walk_at "rd"
      refine ⟨l, _, rfl, .inl ⟨SqL.of hL, fun q hq => ?_⟩⟩
      walk_at "rd"
      refine ⟨by show 2 ≤ sizeLine; decide, fun r hr => ?_⟩
      have hq0 : H q = none := by
        cases e : H q with
        | none => rfl
        | some u => rw [g4 _ _ e] at hq; cases hq
      have S5 := g4.trans (same_upd hq (.tup (s.ps.map V.int)))
      have hr0 : H r = none := by
        cases e : H r with
        | none => rfl
        | some u => rw [S5 _ _ e] at hr; cases hr
      exact hgood s q r _ g2 c1 hq0 hr0 ((same_upd hr _) _ _ upd_same) upd_same (S5.trans (same_upd hr _))
end

abbrev s__law_written : Stmt := (top 11)
theorem sc__law_written : FnScope ["point"] ["point"] (defScope s__law_written) := ⟨rfl, rfl, rfl, by decide +kernel, rfl, by decide +kernel, by decide +kernel⟩
/-- the state stays when a place changes that was free at an earlier heap -/
theorem LS.away {K : PySem.W.Frag} {S : SC} {H1 H' : Hp} (L1 : LS K S H1) {D : Addr} (hD : H1 D = none) (L : LS K S H') (o : HO) : LS K S (upd H' D o) := by
  obtain ⟨⟨k, l, f, e⟩, h2, h3, h4, h5⟩ := L1
  obtain ⟨⟨k', l', f', e'⟩, h2', _, _, h5'⟩ := L
  have n : ∀ {b : Addr} {u : HO}, H1 b = some u → b ≠ D := fun h z => by
    rw [z, hD] at h
    cases h
  refine ⟨⟨k', l', f', (upd_ne (n e)).trans e'⟩, (upd_ne (n h2)).trans h2', h3, h4, ?_⟩
  rcases h5 with (h | ⟨u, h⟩) | h
  · exact seq_upd h5' (n h)
  · exact seq_upd h5' (n h)
  · exact .inr h
def sp__law_written : Sp := sp1 fun a H Q _ => ∃ c, a = .int c ∧ ∀ p H', H p = none → H' p = some (.lst ((enc1 c).map V.int)) → Same H H' → Q (.ref p) H'
theorem shaped_ints (ns : List Int) : SeqAt.shaped (.list (ns.map PyData.int)) = true := PySem.W.ke_shaped_ints ns
theorem shaped_pair (ns : List Int) : SeqAt.shaped (.tuple [.tuple (ns.map PyData.int), .none]) = true := by
  simp [SeqAt.shaped, PyData.canLay0, PyData.canLayAll0, PyData.depth, PyData.depthAll, PySem.W.ke_canLayAll0, PySem.W.ke_depthAll]
theorem u8run_split : ∀ (zs : List Int) (i : Nat) (s t u : U8) (z : Int), u8run s zs = some t → zs[i]? = some z → u8run s (zs.take i) = some u → (u8take u z).1 = true
  | [], _, _, _, _, _, _, e, _ => by cases e
  | b :: bs, 0, s, t, u, z, h, e, g => by
    cases e
    cases g
    unfold u8run at h
    by_cases c : (u8take s b).1 = true
    · exact c
    · rw [if_neg c] at h
      cases h
  | b :: bs, i + 1, s, t, u, z, h, e, g => by
    unfold u8run at h
    have g : (if (u8take s b).1 = true then u8run (u8take s b).2 (bs.take i) else none) = some u := g
    by_cases c : (u8take s b).1 = true
    · rw [if_pos c] at h g
      exact u8run_split bs i _ t u z h e g
    · rw [if_neg c] at h
      cases h
def Oth (m l wl : Addr) (H H' : Hp) : Prop := ∀ b u, b ≠ m → b ≠ l → b ≠ wl → H b = some u → H' b = some u
theorem Oth.trans {m l wl : Addr} {H H1 H2 : Hp} (a : Oth m l wl H H1) (b : Oth m l wl H1 H2) : Oth m l wl H H2 := fun p u x y z e => b p u x y z (a p u x y z e)
theorem Oth.same {m l wl : Addr} {H H' : Hp} (s : Same H H') : Oth m l wl H H' := fun p u _ _ _ e => s p u e
theorem Oth.but {m l wl : Addr} {H H' : Hp} (s : But m l H H') : Oth m l wl H H' := fun p u x y _ e => s p u x y e
theorem r_lc0 {σ : St} {H : Hp} {Q : VK} {ta : TA} {g : TG} {tt : TT} {te : TE} {vs : List Nat} (h : ta σ H fun ws H1 => ∃ j : Int, ws = [.int j] ∧ -(2 ^ 62) ≤ j ∧ j < 2 ^ 62 ∧ ∀ D, H1 D = none → ∃ W : Nat → Nat → Hp → Prop, (∃ m, W 0 m (upd H1 D (.lst []))) ∧ ∀ i m H, W i m H →
  ((Itr 0 j.toNat).stop i H ∧ Q (.ref D) H) ∨ ((Itr 0 j.toNat).go i H ∧ ∃ Nx : Hp → Prop, (∀ H', Nx H' → ∃ m', m' < m ∧ W (i + 1) m' H') ∧ ∀ x H', (Itr 0 j.toNat).yld i H x H' → g x (wipe σ vs) H' fun σ2 H2 => wipe σ2 vs = wipe σ vs ∧ tt σ2 H2 fun b H3 =>
    if b = true then te σ2 H3 fun y H4 => ∃ acc, H4 D = some (.lst acc) ∧ acc.length < sizeLine ∧ Nx (upd H4 D (.lst (acc ++ [y]))) else Nx H3)) : tLc (iRng1 ta) g tt te vs σ H Q := h
section
variable {P : Program} {w : World} {K : PySem.W.Frag} {mg : Str → Option Value} {base : Heap} {f : Addr} {fd : FuncData}
theorem ok__law_written (F : FunD K "_law_written" "_law_written" (defArgs s__law_written) (defBody s__law_written) (defScope s__law_written) [] [] (glAd "_law_written" K) fd) (m : mg "_law_written" = some (.ref (glAd "_law_written" K))) (nb : Nm K mg) : Cal P w K mg base 1 "_law_written" sp__law_written [] := by
  refine calD F m sc__law_written (fun _ _ _ _ _ _ us hl => match us, hl with | [_], _ => rfl) len1 (fun cdv A outer s H vs Q E hr h => ⟨_, (pss_cons (ps_if (pt_cmpR op_lt (pv 0) pe_int (nomark _))
    (pss_one (ps_ret (pe_lst (pa_cons (pv 0) pa_nil))))
    pss_nil)
    (pss_cons (ps_if (pt_cmpR op_lt (pv 0) pe_int (nomark _))
    (pss_one (ps_ret (pe_lst (pa_cons (pe_op op_add pe_int (pe_op op_fdiv (pv 0) pe_int)) (pa_cons (pe_op op_add pe_int (pe_op op_mod (pv 0) pe_int)) pa_nil)))))
    pss_nil)
    (pss_cons (ps_if (pt_cmpR op_lt (pv 0) pe_int (nomark _))
    (pss_one (ps_ret (pe_lst (pa_cons (pe_op op_add pe_int (pe_op op_fdiv (pv 0) pe_int)) (pa_cons (pe_op op_add pe_int (pe_op op_mod (pe_op op_fdiv (pv 0) pe_int) pe_int)) (pa_cons (pe_op op_add pe_int (pe_op op_mod (pv 0) pe_int)) pa_nil))))))
    pss_nil)
    (pss_one (ps_ret (pe_lst (pa_cons (pe_op op_add pe_int (pe_op op_fdiv (pv 0) pe_int)) (pa_cons (pe_op op_add pe_int (pe_op op_mod (pe_op op_fdiv (pv 0) pe_int) pe_int)) (pa_cons (pe_op op_add pe_int (pe_op op_mod (pe_op op_fdiv (pv 0) pe_int) pe_int)) (pa_cons (pe_op op_add pe_int (pe_op op_mod (pv 0) pe_int)) pa_nil)))))))))), ?_⟩)
  obtain ⟨_, rfl, c, rfl, h⟩ := h
  walk_at "rd"
  refine r_ite (fun c1 => ?_) (fun c1 => ?_)
  · walk_at "rd"
    refine ⟨by show 1 ≤ sizeLine; decide, fun p hp => h p _ hp ?_ (same_upd hp _)⟩
    rw [enc_low c1]
    exact upd_same
  walk_at "rd"
  have c1 : 128 ≤ c := by omega
  refine r_ite (fun c2 => ?_) (fun c2 => ?_)
  · walk_at "rd"
    refine ⟨by show 2 ≤ sizeLine; decide, fun p hp => h p _ hp ?_ (same_upd hp _)⟩
    rcases enc_long c1 with ⟨_, _, e2⟩ | ⟨_, _, _, _⟩ | ⟨_, _, _⟩
    · rw [e2]
      exact upd_same
    · omega
    · omega
  walk_at "rd"
  refine r_ite (fun c3 => ?_) (fun c3 => ?_)
  · walk_at "rd"
    refine ⟨by show 3 ≤ sizeLine; decide, fun p hp => h p _ hp ?_ (same_upd hp _)⟩
    rcases enc_long c1 with ⟨_, _, e2⟩ | ⟨_, _, _, e2⟩ | ⟨_, _, _⟩
    · omega
    · rw [e2]
      exact upd_same
    · omega
  · walk_at "rd"
    refine ⟨by show 4 ≤ sizeLine; decide, fun p hp => h p _ hp ?_ (same_upd hp _)⟩
    rcases enc_long c1 with ⟨_, _, e2⟩ | ⟨_, _, _, e2⟩ | ⟨_, _, e2⟩
    · omega
    · omega
    · rw [e2]
      exact upd_same
end

/-! ### what can still come behind octets, by counting -/
def cnt8 (z : Int) : Int := 1 + (if z ≥ 192 then 1 else 0) + (if z ≥ 224 then 1 else 0) + (if z ≥ 240 then 1 else 0)
def base8 (c : Int) : Int := if c = 1 then 0 else if c = 2 then 192 else if c = 3 then 224 else 240
def min8 (c : Int) : Int := if c = 1 then 0 else if c = 2 then 128 else if c = 3 then 2048 else 65536
def max8 (c : Int) : Int := if c = 1 then 127 else if c = 2 then 2047 else if c = 3 then 65535 else 1114111
def bits8 (b : Int) (zs : List Int) : Int := zs.foldl (fun b z => b * 64 + z - 128) b
theorem bits8_snoc (b : Int) (zs : List Int) (z : Int) : bits8 b (zs ++ [z]) = bits8 b zs * 64 + z - 128 := by
  unfold bits8
  rw [List.foldl_append]
  rfl
def fin8 (c b r : Int) : Int :=
  if max (b * 64 ^ r.toNat) (min8 c) > min (b * 64 ^ r.toNat + 64 ^ r.toNat - 1) (max8 c) ∨ (max (b * 64 ^ r.toNat) (min8 c) ≥ 55296 ∧ min (b * 64 ^ r.toNat + 64 ^ r.toNat - 1) (max8 c) ≤ 57343) then -1 else r
def mid8 (z : Int) : Prop := 128 ≤ z ∧ z ≤ 191
instance (z : Int) : Decidable (mid8 z) := inferInstanceAs (Decidable (_ ∧ _))
def bad8 (z : Int) : Prop := z ≥ 248 ∨ (128 ≤ z ∧ z < 192)
instance (z : Int) : Decidable (bad8 z) := inferInstanceAs (Decidable (_ ∨ _))
def can8 : List Int → Int
  | [] => 0
  | z :: zs => if bad8 z then -1 else if ∀ x ∈ zs, mid8 x then fin8 (cnt8 z) (bits8 (z - base8 (cnt8 z)) zs) (cnt8 z - ((zs.length : Nat) + 1)) else -1
def Bg (bg : List Int) (s : U8) : Prop :=
  (bg = [] ∧ s.ms = 0) ∨
  (∃ (z : Int) (i : Nat) (r : U8R), bg = [z] ∧ rows8[i]? = some r ∧ r.f ≤ z ∧ z ≤ r.l ∧ s = ⟨s.ps, r.m, z - mark8 r.m, r.le, r.mo⟩) ∨
  (∃ (z : Int) (zs : List Int), bg = z :: zs ∧ ¬ bad8 z ∧ zs ≠ [] ∧ (∀ x ∈ zs, mid8 x) ∧ s.wo = bits8 (z - base8 (cnt8 z)) zs ∧ s.ms = cnt8 z - ((zs.length : Nat) + 1) ∧ 0 < s.ms ∧ s.le = 128 ∧ s.mo = 191 ∧ (s.ms = 1 ∨ s.ms = 2) ∧
    min8 (cnt8 z) ≤ s.wo * 64 ^ s.ms.toNat ∧ s.wo * 64 ^ s.ms.toNat + 64 ^ s.ms.toNat - 1 ≤ max8 (cnt8 z) ∧ (s.wo * 64 ^ s.ms.toNat + 64 ^ s.ms.toNat - 1 < 55296 ∨ 57344 ≤ s.wo * 64 ^ s.ms.toNat))
/-- what a step does -/
def Step8 (bg : List Int) (s : U8) (z : Int) : Prop :=
  ((u8take s z).1 = false ∧ can8 (bg ++ [z]) < 0) ∨
  ((u8take s z).1 = true ∧ can8 (bg ++ [z]) = (u8take s z).2.ms ∧ ((u8take s z).2.ms = 0 ∧ Bg [] (u8take s z).2 ∨ 0 < (u8take s z).2.ms ∧ Bg (bg ++ [z]) (u8take s z).2))
theorem u8start_none {s : U8} {b : Int} (h : ∀ r ∈ rows8, ¬ (r.f ≤ b ∧ b ≤ r.l)) : u8start s b = (false, s) := by
  have hf : rows8.find? (·.is b) = none := List.find?_eq_none.mpr fun r hr q => h r hr (of_decide_eq_true q)
  unfold u8start
  rw [hf]
theorem cnt1 {z : Int} (h : z < 192) : cnt8 z = 1 := by
  unfold cnt8
  rw [if_neg (by omega), if_neg (by omega), if_neg (by omega)]
  rfl
theorem cnt2 {z : Int} (h : 192 ≤ z) (h2 : z < 224) : cnt8 z = 2 := by
  unfold cnt8
  rw [if_pos (by omega), if_neg (by omega), if_neg (by omega)]
  rfl
theorem cnt3 {z : Int} (h : 224 ≤ z) (h2 : z < 240) : cnt8 z = 3 := by
  unfold cnt8
  rw [if_pos (by omega), if_pos (by omega), if_neg (by omega)]
  rfl
theorem cnt4 {z : Int} (h : 240 ≤ z) : cnt8 z = 4 := by
  unfold cnt8
  rw [if_pos (by omega), if_pos (by omega), if_pos (by omega)]
  rfl
theorem can8_one {z : Int} (h : ¬ bad8 z) : can8 [z] = fin8 (cnt8 z) (z - base8 (cnt8 z)) (cnt8 z - 1) := by
  show (if bad8 z then -1 else if ∀ x ∈ [], mid8 x then _ else -1) = _
  rw [if_neg h, if_pos (fun x hx => by cases hx)]
  rfl
theorem fin8_bad {c b r : Int} {lo hi w : Int} (e : (64 : Int) ^ r.toNat = w) (e1 : min8 c = lo) (e2 : max8 c = hi) (h : max (b * w) lo > min (b * w + w - 1) hi ∨ (max (b * w) lo ≥ 55296 ∧ min (b * w + w - 1) hi ≤ 57343)) : fin8 c b r = -1 := by
  unfold fin8
  rw [e, e1, e2, if_pos h]
theorem fin8_ok {c b r : Int} {lo hi w : Int} (e : (64 : Int) ^ r.toNat = w) (e1 : min8 c = lo) (e2 : max8 c = hi) (h : ¬ (max (b * w) lo > min (b * w + w - 1) hi ∨ (max (b * w) lo ≥ 55296 ∧ min (b * w + w - 1) hi ≤ 57343))) : fin8 c b r = r := by
  unfold fin8
  rw [e, e1, e2, if_neg h]
theorem step8_first {s : U8} {z : Int} (h0 : s.ms = 0) (z0 : 0 ≤ z) (z1 : z ≤ 255) : Step8 [] s z := by
  unfold Step8
  by_cases c0 : z < 128
  · refine .inr ?_
    rw [take_low h0 c0]
    refine ⟨rfl, ?_, .inl ⟨h0, .inl ⟨rfl, h0⟩⟩⟩
    show can8 [z] = s.ms
    rw [can8_one (by unfold bad8; omega), cnt1 (by omega), h0]
    exact fin8_ok (w := 1) rfl rfl rfl (by show ¬ (max ((z - 0) * 1) 0 > min ((z - 0) * 1 + 1 - 1) 127 ∨ (max ((z - 0) * 1) 0 ≥ 55296 ∧ min ((z - 0) * 1 + 1 - 1) 127 ≤ 57343)); omega)
  rw [take_start h0 (by omega)]
  have none : (∀ r ∈ rows8, ¬ (r.f ≤ z ∧ z ≤ r.l)) → can8 [z] < 0 → ((u8start s z).1 = false ∧ can8 ([] ++ [z]) < 0) := fun h1 h2 => by
    rw [u8start_none h1]
    exact ⟨rfl, h2⟩
  have some : ∀ (i : Nat) (r : U8R), rows8[i]? = some r → r.f ≤ z ∧ z ≤ r.l → can8 [z] = r.m → 0 < r.m → ((u8start s z).1 = true ∧ can8 ([] ++ [z]) = (u8start s z).2.ms ∧ ((u8start s z).2.ms = 0 ∧ Bg [] (u8start s z).2 ∨ 0 < (u8start s z).2.ms ∧ Bg ([] ++ [z]) (u8start s z).2)) := fun i r h1 h2 h3 h4 => by
    rw [u8start_eq s z i r h1 h2]
    exact ⟨rfl, h3, .inr ⟨h4, .inr (.inl ⟨z, i, r, rfl, h1, h2.1, h2.2, rfl⟩)⟩⟩
  have ne : ∀ P : Int → Int → Prop, P 194 223 → P 224 224 → P 225 236 → P 237 237 → P 238 239 → P 240 240 → P 241 243 → P 244 244 → ∀ r ∈ rows8, P r.f r.l := by
    intro P h1 h2 h3 h4 h5 h6 h7 h8 r hr
    simp only [rows8, List.mem_cons, List.not_mem_nil, or_false] at hr
    rcases hr with e | e | e | e | e | e | e | e <;> rw [e] <;> assumption
  have out : (z < 194 ∨ 244 < z) → ∀ r ∈ rows8, ¬ (r.f ≤ z ∧ z ≤ r.l) := fun h => by
    refine ne (fun f l => ¬ (f ≤ z ∧ z ≤ l)) ?_ ?_ ?_ ?_ ?_ ?_ ?_ ?_ <;> omega
  by_cases c1 : bad8 z
  · refine .inl (none (out (by unfold bad8 at c1; omega)) ?_)
    show (if bad8 z then -1 else _) < (0 : Int)
    rw [if_pos c1]
    decide
  have c1' : ¬ (z ≥ 248 ∨ (128 ≤ z ∧ z < 192)) := c1
  by_cases c2 : z < 224
  · have e := can8_one c1
    rw [cnt2 (by omega) c2] at e
    by_cases c3 : z < 194
    · refine .inl (none (out (by omega)) ?_)
      rw [e, fin8_bad (w := 64) (lo := 128) (hi := 2047) rfl rfl rfl (by show (max ((z - 192) * 64) 128 > min ((z - 192) * 64 + 64 - 1) 2047 ∨ _); omega)]
      decide
    · refine .inr (some 0 _ rfl ⟨by show (194 : Int) ≤ z; omega, by show z ≤ (223 : Int); omega⟩ ?_ (by decide))
      rw [e, fin8_ok (w := 64) (lo := 128) (hi := 2047) rfl rfl rfl (by show ¬ (max ((z - 192) * 64) 128 > min ((z - 192) * 64 + 64 - 1) 2047 ∨ (max ((z - 192) * 64) 128 ≥ 55296 ∧ min ((z - 192) * 64 + 64 - 1) 2047 ≤ 57343)); omega)]
      rfl
  by_cases c3 : z < 240
  · have e := can8_one c1
    rw [cnt3 (by omega) c3] at e
    rw [fin8_ok (w := 4096) (lo := 2048) (hi := 65535) rfl rfl rfl (by show ¬ (max ((z - 224) * 4096) 2048 > min ((z - 224) * 4096 + 4096 - 1) 65535 ∨ (max ((z - 224) * 4096) 2048 ≥ 55296 ∧ min ((z - 224) * 4096 + 4096 - 1) 65535 ≤ 57343)); omega)] at e
    refine .inr ?_
    by_cases d1 : z < 225
    · exact some 1 _ rfl ⟨by show (224 : Int) ≤ z; omega, by show z ≤ (224 : Int); omega⟩ e (by decide)
    by_cases d2 : z < 237
    · exact some 2 _ rfl ⟨by show (225 : Int) ≤ z; omega, by show z ≤ (236 : Int); omega⟩ e (by decide)
    by_cases d3 : z < 238
    · exact some 3 _ rfl ⟨by show (237 : Int) ≤ z; omega, by show z ≤ (237 : Int); omega⟩ e (by decide)
    · exact some 4 _ rfl ⟨by show (238 : Int) ≤ z; omega, by show z ≤ (239 : Int); omega⟩ e (by decide)
  · have e := can8_one c1
    rw [cnt4 (by omega)] at e
    by_cases c4 : z < 245
    · rw [fin8_ok (w := 262144) (lo := 65536) (hi := 1114111) rfl rfl rfl (by show ¬ (max ((z - 240) * 262144) 65536 > min ((z - 240) * 262144 + 262144 - 1) 1114111 ∨ (max ((z - 240) * 262144) 65536 ≥ 55296 ∧ min ((z - 240) * 262144 + 262144 - 1) 1114111 ≤ 57343)); omega)] at e
      refine .inr ?_
      by_cases d1 : z < 241
      · exact some 5 _ rfl ⟨by show (240 : Int) ≤ z; omega, by show z ≤ (240 : Int); omega⟩ e (by decide)
      by_cases d2 : z < 244
      · exact some 6 _ rfl ⟨by show (241 : Int) ≤ z; omega, by show z ≤ (243 : Int); omega⟩ e (by decide)
      · exact some 7 _ rfl ⟨by show (244 : Int) ≤ z; omega, by show z ≤ (244 : Int); omega⟩ e (by decide)
    · refine .inl (none (out (by omega)) ?_)
      rw [e, fin8_bad (w := 262144) (lo := 65536) (hi := 1114111) rfl rfl rfl (by show (max ((z - 240) * 262144) 65536 > min ((z - 240) * 262144 + 262144 - 1) 1114111 ∨ _); omega)]
      decide
theorem step8_go {s : U8} {z0 z w lo hi : Int} {zs : List Int} (hb : ¬ bad8 z0) (hz : ∀ x ∈ zs, mid8 x) (hwo : s.wo = bits8 (z0 - base8 (cnt8 z0)) zs) (hms : s.ms = cnt8 z0 - ((zs.length : Nat) + 1)) (h0 : s.ms = 1 ∨ s.ms = 2 ∨ s.ms = 3) (hle : 128 ≤ s.le) (hmo : s.mo ≤ 191)
    (ew : (64 : Int) ^ (s.ms - 1).toNat = w) (e1 : min8 (cnt8 z0) = lo) (e2 : max8 (cnt8 z0) = hi)
    (good : s.le ≤ z → z ≤ s.mo → lo ≤ (s.wo * 64 + z - 128) * w ∧ (s.wo * 64 + z - 128) * w + w - 1 ≤ hi ∧ ((s.wo * 64 + z - 128) * w + w - 1 < 55296 ∨ 57344 ≤ (s.wo * 64 + z - 128) * w) ∧ 1 ≤ w)
    (badc : 128 ≤ z → z ≤ 191 → ¬ (s.le ≤ z ∧ z ≤ s.mo) → max ((s.wo * 64 + z - 128) * w) lo > min ((s.wo * 64 + z - 128) * w + w - 1) hi ∨ (max ((s.wo * 64 + z - 128) * w) lo ≥ 55296 ∧ min ((s.wo * 64 + z - 128) * w + w - 1) hi ≤ 57343)) : Step8 (z0 :: zs) s z := by
  have hpos : s.ms > 0 := by omega
  have et : u8take s z = u8go s z := by
    unfold u8take
    rw [if_pos hpos]
  have ec : can8 (z0 :: zs ++ [z]) = if ∀ x ∈ zs ++ [z], mid8 x then fin8 (cnt8 z0) (s.wo * 64 + z - 128) (s.ms - 1) else -1 := by
    show (if bad8 z0 then -1 else if ∀ x ∈ zs ++ [z], mid8 x then fin8 (cnt8 z0) (bits8 (z0 - base8 (cnt8 z0)) (zs ++ [z])) (cnt8 z0 - (((zs ++ [z]).length : Nat) + 1)) else -1) = _
    rw [if_neg hb, bits8_snoc, ← hwo, show cnt8 z0 - (((zs ++ [z]).length : Nat) + 1) = s.ms - 1 by rw [hms, List.length_append]; show _ - (((zs.length + 1 : Nat) : Int) + 1) = _; omega]
  unfold Step8
  rw [et, ec]
  by_cases hm : mid8 z
  · have hall : ∀ x ∈ zs ++ [z], mid8 x := fun x hx => by
      rcases List.mem_append.mp hx with q | q
      · exact hz x q
      · have e : x = z := by simpa using q
        rw [e]
        exact hm
    rw [if_pos hall]
    by_cases hr : s.le ≤ z ∧ z ≤ s.mo
    · obtain ⟨g1, g2, g3, g4⟩ := good hr.1 hr.2
      rw [fin8_ok ew e1 e2 (by omega)]
      have eg : u8go s z = (true, ⟨if s.ms - 1 = 0 then s.ps ++ [s.wo * 64 + z - 128] else s.ps, s.ms - 1, s.wo * 64 + z - 128, 128, 191⟩) := by
        unfold u8go
        rw [if_pos hr]
      rw [eg]
      refine .inr ⟨rfl, rfl, ?_⟩
      by_cases h1 : s.ms = 1
      · refine .inl ⟨?_, .inl ⟨rfl, ?_⟩⟩
        · show s.ms - 1 = 0
          omega
        · show s.ms - 1 = 0
          omega
      · refine .inr ⟨by show 0 < s.ms - 1; omega, .inr (.inr ⟨z0, zs ++ [z], rfl, hb, by simp, hall, ?_, ?_, by show 0 < s.ms - 1; omega, rfl, rfl, by show s.ms - 1 = 1 ∨ s.ms - 1 = 2; omega, ?_, ?_, ?_⟩)⟩
        · rw [bits8_snoc, ← hwo]
        · show s.ms - 1 = _
          rw [hms, List.length_append]
          show _ = _ - (((zs.length + 1 : Nat) : Int) + 1)
          omega
        · show min8 (cnt8 z0) ≤ (s.wo * 64 + z - 128) * 64 ^ (s.ms - 1).toNat
          rw [ew, e1]
          exact g1
        · show (s.wo * 64 + z - 128) * 64 ^ (s.ms - 1).toNat + 64 ^ (s.ms - 1).toNat - 1 ≤ max8 (cnt8 z0)
          rw [ew, e2]
          exact g2
        · show (s.wo * 64 + z - 128) * 64 ^ (s.ms - 1).toNat + 64 ^ (s.ms - 1).toNat - 1 < 55296 ∨ 57344 ≤ (s.wo * 64 + z - 128) * 64 ^ (s.ms - 1).toNat
          rw [ew]
          exact g3
    · rw [fin8_bad ew e1 e2 (badc hm.1 hm.2 hr)]
      refine .inl ⟨?_, by decide⟩
      unfold u8go
      rw [if_neg hr]
  · have hall : ¬ ∀ x ∈ zs ++ [z], mid8 x := fun h => hm (h z (by simp))
    rw [if_neg hall]
    refine .inl ⟨?_, by decide⟩
    unfold u8go
    rw [if_neg (fun q => hm ⟨by omega, by omega⟩)]
theorem step8 {bg : List Int} {s : U8} {z : Int} (hB : Bg bg s) (z0 : 0 ≤ z) (z1 : z ≤ 255) : Step8 bg s z := by
  rcases hB with ⟨rfl, h0⟩ | ⟨y, i, r, rfl, hr, hf, hl, hs⟩ | ⟨y, zs, rfl, hb, hn, hz, hwo, hms, hp, hle, hmo, h12, g1, g2, g3⟩
  · exact step8_first h0 z0 z1
  · have hi : i < 8 := (List.getElem?_eq_some_iff.mp hr).1
    generalize hps : s.ps = ps at hs
    subst hs
    clear hps
    have e : (i = 0 ∨ i = 1 ∨ i = 2 ∨ i = 3 ∨ i = 4 ∨ i = 5 ∨ i = 6 ∨ i = 7) := by omega
    rcases e with e | e | e | e | e | e | e | e
    · subst e
      cases hr
      have hf : (194 : Int) ≤ y := hf
      have hl : y ≤ (223 : Int) := hl
      have hc := cnt2 (z := y) (by omega) (by omega)
      refine step8_go (w := 1) (lo := 128) (hi := 2047) (by unfold bad8; omega) (fun x hx => by cases hx) (by rw [hc]; rfl) (by rw [hc]; rfl) (.inl rfl) (by show (128 : Int) ≤ 128; omega) (by show (191 : Int) ≤ 191; omega) rfl (by rw [hc]; rfl) (by rw [hc]; rfl) ?_ ?_
      · show (128 : Int) ≤ z → z ≤ (191 : Int) → (128 : Int) ≤ ((y - 192) * 64 + z - 128) * 1 ∧ ((y - 192) * 64 + z - 128) * 1 + 1 - 1 ≤ (2047 : Int) ∧ _
        show _ → _ → _ ∧ _ ∧ (((y - 192) * 64 + z - 128) * 1 + 1 - 1 < (55296 : Int) ∨ (57344 : Int) ≤ ((y - 192) * 64 + z - 128) * 1) ∧ (1 : Int) ≤ 1
        omega
      · intro a b c
        exact absurd (⟨a, b⟩ : (128 : Int) ≤ z ∧ z ≤ 191) c
    · subst e
      cases hr
      have hf : (224 : Int) ≤ y := hf
      have hl : y ≤ (224 : Int) := hl
      have hc := cnt3 (z := y) (by omega) (by omega)
      refine step8_go (w := 64) (lo := 2048) (hi := 65535) (by unfold bad8; omega) (fun x hx => by cases hx) (by rw [hc]; rfl) (by rw [hc]; rfl) (.inr (.inl rfl)) (by show (128 : Int) ≤ 160; omega) (by show (191 : Int) ≤ 191; omega) rfl (by rw [hc]; rfl) (by rw [hc]; rfl) ?_ ?_
      · show (160 : Int) ≤ z → z ≤ (191 : Int) → (2048 : Int) ≤ ((y - 224) * 64 + z - 128) * 64 ∧ ((y - 224) * 64 + z - 128) * 64 + 64 - 1 ≤ (65535 : Int) ∧ (((y - 224) * 64 + z - 128) * 64 + 64 - 1 < (55296 : Int) ∨ (57344 : Int) ≤ ((y - 224) * 64 + z - 128) * 64) ∧ (1 : Int) ≤ 64
        omega
      · show (128 : Int) ≤ z → z ≤ (191 : Int) → ¬ ((160 : Int) ≤ z ∧ z ≤ (191 : Int)) → max (((y - 224) * 64 + z - 128) * 64) (2048 : Int) > min (((y - 224) * 64 + z - 128) * 64 + 64 - 1) (65535 : Int) ∨ (max (((y - 224) * 64 + z - 128) * 64) (2048 : Int) ≥ (55296 : Int) ∧ min (((y - 224) * 64 + z - 128) * 64 + 64 - 1) (65535 : Int) ≤ (57343 : Int))
        omega
    · subst e
      cases hr
      have hf : (225 : Int) ≤ y := hf
      have hl : y ≤ (236 : Int) := hl
      have hc := cnt3 (z := y) (by omega) (by omega)
      refine step8_go (w := 64) (lo := 2048) (hi := 65535) (by unfold bad8; omega) (fun x hx => by cases hx) (by rw [hc]; rfl) (by rw [hc]; rfl) (.inr (.inl rfl)) (by show (128 : Int) ≤ 128; omega) (by show (191 : Int) ≤ 191; omega) rfl (by rw [hc]; rfl) (by rw [hc]; rfl) ?_ ?_
      · show (128 : Int) ≤ z → z ≤ (191 : Int) → (2048 : Int) ≤ ((y - 224) * 64 + z - 128) * 64 ∧ ((y - 224) * 64 + z - 128) * 64 + 64 - 1 ≤ (65535 : Int) ∧ (((y - 224) * 64 + z - 128) * 64 + 64 - 1 < (55296 : Int) ∨ (57344 : Int) ≤ ((y - 224) * 64 + z - 128) * 64) ∧ (1 : Int) ≤ 64
        omega
      · show (128 : Int) ≤ z → z ≤ (191 : Int) → ¬ ((128 : Int) ≤ z ∧ z ≤ (191 : Int)) → max (((y - 224) * 64 + z - 128) * 64) (2048 : Int) > min (((y - 224) * 64 + z - 128) * 64 + 64 - 1) (65535 : Int) ∨ (max (((y - 224) * 64 + z - 128) * 64) (2048 : Int) ≥ (55296 : Int) ∧ min (((y - 224) * 64 + z - 128) * 64 + 64 - 1) (65535 : Int) ≤ (57343 : Int))
        omega
    · subst e
      cases hr
      have hf : (237 : Int) ≤ y := hf
      have hl : y ≤ (237 : Int) := hl
      have hc := cnt3 (z := y) (by omega) (by omega)
      refine step8_go (w := 64) (lo := 2048) (hi := 65535) (by unfold bad8; omega) (fun x hx => by cases hx) (by rw [hc]; rfl) (by rw [hc]; rfl) (.inr (.inl rfl)) (by show (128 : Int) ≤ 128; omega) (by show (159 : Int) ≤ 191; omega) rfl (by rw [hc]; rfl) (by rw [hc]; rfl) ?_ ?_
      · show (128 : Int) ≤ z → z ≤ (159 : Int) → (2048 : Int) ≤ ((y - 224) * 64 + z - 128) * 64 ∧ ((y - 224) * 64 + z - 128) * 64 + 64 - 1 ≤ (65535 : Int) ∧ (((y - 224) * 64 + z - 128) * 64 + 64 - 1 < (55296 : Int) ∨ (57344 : Int) ≤ ((y - 224) * 64 + z - 128) * 64) ∧ (1 : Int) ≤ 64
        omega
      · show (128 : Int) ≤ z → z ≤ (191 : Int) → ¬ ((128 : Int) ≤ z ∧ z ≤ (159 : Int)) → max (((y - 224) * 64 + z - 128) * 64) (2048 : Int) > min (((y - 224) * 64 + z - 128) * 64 + 64 - 1) (65535 : Int) ∨ (max (((y - 224) * 64 + z - 128) * 64) (2048 : Int) ≥ (55296 : Int) ∧ min (((y - 224) * 64 + z - 128) * 64 + 64 - 1) (65535 : Int) ≤ (57343 : Int))
        omega
    · subst e
      cases hr
      have hf : (238 : Int) ≤ y := hf
      have hl : y ≤ (239 : Int) := hl
      have hc := cnt3 (z := y) (by omega) (by omega)
      refine step8_go (w := 64) (lo := 2048) (hi := 65535) (by unfold bad8; omega) (fun x hx => by cases hx) (by rw [hc]; rfl) (by rw [hc]; rfl) (.inr (.inl rfl)) (by show (128 : Int) ≤ 128; omega) (by show (191 : Int) ≤ 191; omega) rfl (by rw [hc]; rfl) (by rw [hc]; rfl) ?_ ?_
      · show (128 : Int) ≤ z → z ≤ (191 : Int) → (2048 : Int) ≤ ((y - 224) * 64 + z - 128) * 64 ∧ ((y - 224) * 64 + z - 128) * 64 + 64 - 1 ≤ (65535 : Int) ∧ (((y - 224) * 64 + z - 128) * 64 + 64 - 1 < (55296 : Int) ∨ (57344 : Int) ≤ ((y - 224) * 64 + z - 128) * 64) ∧ (1 : Int) ≤ 64
        omega
      · show (128 : Int) ≤ z → z ≤ (191 : Int) → ¬ ((128 : Int) ≤ z ∧ z ≤ (191 : Int)) → max (((y - 224) * 64 + z - 128) * 64) (2048 : Int) > min (((y - 224) * 64 + z - 128) * 64 + 64 - 1) (65535 : Int) ∨ (max (((y - 224) * 64 + z - 128) * 64) (2048 : Int) ≥ (55296 : Int) ∧ min (((y - 224) * 64 + z - 128) * 64 + 64 - 1) (65535 : Int) ≤ (57343 : Int))
        omega
    · subst e
      cases hr
      have hf : (240 : Int) ≤ y := hf
      have hl : y ≤ (240 : Int) := hl
      have hc := cnt4 (z := y) (by omega)
      refine step8_go (w := 4096) (lo := 65536) (hi := 1114111) (by unfold bad8; omega) (fun x hx => by cases hx) (by rw [hc]; rfl) (by rw [hc]; rfl) (.inr (.inr rfl)) (by show (128 : Int) ≤ 144; omega) (by show (191 : Int) ≤ 191; omega) rfl (by rw [hc]; rfl) (by rw [hc]; rfl) ?_ ?_
      · show (144 : Int) ≤ z → z ≤ (191 : Int) → (65536 : Int) ≤ ((y - 240) * 64 + z - 128) * 4096 ∧ ((y - 240) * 64 + z - 128) * 4096 + 4096 - 1 ≤ (1114111 : Int) ∧ (((y - 240) * 64 + z - 128) * 4096 + 4096 - 1 < (55296 : Int) ∨ (57344 : Int) ≤ ((y - 240) * 64 + z - 128) * 4096) ∧ (1 : Int) ≤ 4096
        omega
      · show (128 : Int) ≤ z → z ≤ (191 : Int) → ¬ ((144 : Int) ≤ z ∧ z ≤ (191 : Int)) → max (((y - 240) * 64 + z - 128) * 4096) (65536 : Int) > min (((y - 240) * 64 + z - 128) * 4096 + 4096 - 1) (1114111 : Int) ∨ (max (((y - 240) * 64 + z - 128) * 4096) (65536 : Int) ≥ (55296 : Int) ∧ min (((y - 240) * 64 + z - 128) * 4096 + 4096 - 1) (1114111 : Int) ≤ (57343 : Int))
        omega
    · subst e
      cases hr
      have hf : (241 : Int) ≤ y := hf
      have hl : y ≤ (243 : Int) := hl
      have hc := cnt4 (z := y) (by omega)
      refine step8_go (w := 4096) (lo := 65536) (hi := 1114111) (by unfold bad8; omega) (fun x hx => by cases hx) (by rw [hc]; rfl) (by rw [hc]; rfl) (.inr (.inr rfl)) (by show (128 : Int) ≤ 128; omega) (by show (191 : Int) ≤ 191; omega) rfl (by rw [hc]; rfl) (by rw [hc]; rfl) ?_ ?_
      · show (128 : Int) ≤ z → z ≤ (191 : Int) → (65536 : Int) ≤ ((y - 240) * 64 + z - 128) * 4096 ∧ ((y - 240) * 64 + z - 128) * 4096 + 4096 - 1 ≤ (1114111 : Int) ∧ (((y - 240) * 64 + z - 128) * 4096 + 4096 - 1 < (55296 : Int) ∨ (57344 : Int) ≤ ((y - 240) * 64 + z - 128) * 4096) ∧ (1 : Int) ≤ 4096
        omega
      · show (128 : Int) ≤ z → z ≤ (191 : Int) → ¬ ((128 : Int) ≤ z ∧ z ≤ (191 : Int)) → max (((y - 240) * 64 + z - 128) * 4096) (65536 : Int) > min (((y - 240) * 64 + z - 128) * 4096 + 4096 - 1) (1114111 : Int) ∨ (max (((y - 240) * 64 + z - 128) * 4096) (65536 : Int) ≥ (55296 : Int) ∧ min (((y - 240) * 64 + z - 128) * 4096 + 4096 - 1) (1114111 : Int) ≤ (57343 : Int))
        omega
    · subst e
      cases hr
      have hf : (244 : Int) ≤ y := hf
      have hl : y ≤ (244 : Int) := hl
      have hc := cnt4 (z := y) (by omega)
      refine step8_go (w := 4096) (lo := 65536) (hi := 1114111) (by unfold bad8; omega) (fun x hx => by cases hx) (by rw [hc]; rfl) (by rw [hc]; rfl) (.inr (.inr rfl)) (by show (128 : Int) ≤ 128; omega) (by show (143 : Int) ≤ 191; omega) rfl (by rw [hc]; rfl) (by rw [hc]; rfl) ?_ ?_
      · show (128 : Int) ≤ z → z ≤ (143 : Int) → (65536 : Int) ≤ ((y - 240) * 64 + z - 128) * 4096 ∧ ((y - 240) * 64 + z - 128) * 4096 + 4096 - 1 ≤ (1114111 : Int) ∧ (((y - 240) * 64 + z - 128) * 4096 + 4096 - 1 < (55296 : Int) ∨ (57344 : Int) ≤ ((y - 240) * 64 + z - 128) * 4096) ∧ (1 : Int) ≤ 4096
        omega
      · show (128 : Int) ≤ z → z ≤ (191 : Int) → ¬ ((128 : Int) ≤ z ∧ z ≤ (143 : Int)) → max (((y - 240) * 64 + z - 128) * 4096) (65536 : Int) > min (((y - 240) * 64 + z - 128) * 4096 + 4096 - 1) (1114111 : Int) ∨ (max (((y - 240) * 64 + z - 128) * 4096) (65536 : Int) ≥ (55296 : Int) ∧ min (((y - 240) * 64 + z - 128) * 4096 + 4096 - 1) (1114111 : Int) ≤ (57343 : Int))
        omega
  · rcases h12 with h1 | h2
    · rw [h1] at g1 g2 g3
      have e64 : (64 : Int) ^ (1 : Int).toNat = 64 := rfl
      rw [e64] at g1 g2 g3
      refine step8_go (w := 1) hb hz hwo hms (.inl h1) (by omega) (by omega) (by rw [h1]; rfl) rfl rfl ?_ ?_
      · rw [hle, hmo]
        omega
      · rw [hle, hmo]
        intro a b c
        exact absurd ⟨a, b⟩ c
    · rw [h2] at g1 g2 g3
      have e64 : (64 : Int) ^ (2 : Int).toNat = 4096 := rfl
      rw [e64] at g1 g2 g3
      refine step8_go (w := 64) hb hz hwo hms (.inr (.inl h2)) (by omega) (by omega) (by rw [h2]; rfl) rfl rfl ?_ ?_
      · rw [hle, hmo]
        omega
      · rw [hle, hmo]
        intro a b c
        exact absurd ⟨a, b⟩ c
theorem row_facts {i : Nat} {r : U8R} (h : rows8[i]? = some r) : ∀ y, r.f ≤ y → y ≤ r.l → cnt8 y = r.m + 1 ∧ mark8 r.m = base8 (r.m + 1) ∧ 1 ≤ r.m ∧ r.m ≤ 3 ∧ ∃ z, (z = 128 ∨ z = 144 ∨ z = 160) ∧ r.le ≤ z ∧ z ≤ r.mo := by
  have hi : i < 8 := (List.getElem?_eq_some_iff.mp h).1
  intro y hf hl
  have e : (i = 0 ∨ i = 1 ∨ i = 2 ∨ i = 3 ∨ i = 4 ∨ i = 5 ∨ i = 6 ∨ i = 7) := by omega
  rcases e with e | e | e | e | e | e | e | e <;> subst e <;> cases h
  · exact ⟨cnt2 (by have : (194 : Int) ≤ y := hf; omega) (by have : y ≤ (223 : Int) := hl; omega), rfl, by decide, by decide, 128, .inl rfl, by decide, by decide⟩
  · exact ⟨cnt3 (by have : (224 : Int) ≤ y := hf; omega) (by have : y ≤ (224 : Int) := hl; omega), rfl, by decide, by decide, 160, .inr (.inr rfl), by decide, by decide⟩
  · exact ⟨cnt3 (by have : (225 : Int) ≤ y := hf; omega) (by have : y ≤ (236 : Int) := hl; omega), rfl, by decide, by decide, 128, .inl rfl, by decide, by decide⟩
  · exact ⟨cnt3 (by have : (237 : Int) ≤ y := hf; omega) (by have : y ≤ (237 : Int) := hl; omega), rfl, by decide, by decide, 128, .inl rfl, by decide, by decide⟩
  · exact ⟨cnt3 (by have : (238 : Int) ≤ y := hf; omega) (by have : y ≤ (239 : Int) := hl; omega), rfl, by decide, by decide, 128, .inl rfl, by decide, by decide⟩
  · exact ⟨cnt4 (by have : (240 : Int) ≤ y := hf; omega), rfl, by decide, by decide, 144, .inr (.inl rfl), by decide, by decide⟩
  · exact ⟨cnt4 (by have : (241 : Int) ≤ y := hf; omega), rfl, by decide, by decide, 128, .inl rfl, by decide, by decide⟩
  · exact ⟨cnt4 (by have : (244 : Int) ≤ y := hf; omega), rfl, by decide, by decide, 128, .inl rfl, by decide, by decide⟩
theorem bg_facts {y : Int} {zs : List Int} {s : U8} (h : Bg (y :: zs) s) : s.wo = bits8 (y - base8 (cnt8 y)) zs ∧ cnt8 y = s.ms + (zs.length : Nat) + 1 ∧ 0 < s.ms ∧ s.ms ≤ 3 ∧ ∃ z, (z = 128 ∨ z = 144 ∨ z = 160) ∧ s.le ≤ z ∧ z ≤ s.mo := by
  rcases h with ⟨h, _⟩ | ⟨z, i, r, h, hr, hf, hl, hs⟩ | ⟨z, zs', h, hb, hn, hz, hwo, hms, hp, hle, hmo, h12, g1, g2, g3⟩
  · cases h
  · cases h
    obtain ⟨e1, e2, e3, e4, e5⟩ := row_facts hr y hf hl
    generalize s.ps = ps at hs
    subst hs
    refine ⟨?_, ?_, by show 0 < r.m; omega, e4, e5⟩
    · show y - mark8 r.m = y - base8 (cnt8 y)
      rw [e1, e2]
    · show cnt8 y = r.m + ((0 : Nat) : Int) + 1
      rw [e1]
      omega
  · cases h
    exact ⟨hwo, by omega, hp, by omega, 128, .inl rfl, by omega, by omega⟩
theorem take_true_ps {s : U8} {z : Int} (h0 : 0 < s.ms) (h : (u8take s z).1 = true) : (u8take s z).2.ms = s.ms - 1 ∧ (u8take s z).2.ps = if s.ms - 1 = 0 then s.ps ++ [s.wo * 64 + z - 128] else s.ps := by
  unfold u8take at h ⊢
  rw [if_pos h0] at h ⊢
  unfold u8go at h ⊢
  by_cases c : s.le ≤ z ∧ z ≤ s.mo
  · rw [if_pos c]
    exact ⟨rfl, rfl⟩
  · rw [if_neg c] at h
    cases h
theorem take_false_same {s : U8} {z : Int} (h : (u8take s z).1 = false) : (u8take s z).2 = s := by
  unfold u8take at h ⊢
  split at h
  · rename_i c
    rw [if_pos c]
    unfold u8go at h ⊢
    split at h
    · cases h
    · rename_i c2
      rw [if_neg c2]
  · rename_i c
    rw [if_neg c]
    split at h
    · cases h
    · rename_i c2
      rw [if_neg c2]
      unfold u8start at h ⊢
      split at h
      · cases h
      · rfl
theorem take_mid {s : U8} {z : Int} (h0 : 0 < s.ms) (h : s.le ≤ z ∧ z ≤ s.mo) : (u8take s z).1 = true := by
  rw [take_go h0 h]
theorem can8_append {bg : List Int} {s : U8} {z : Int} (h : Step8 bg s z) : ((u8take s z).1 = false ↔ can8 (bg ++ [z]) < 0) := by
  rcases h with ⟨h1, h2⟩ | ⟨h1, h2, h3⟩
  · exact ⟨fun _ => h2, fun _ => h1⟩
  · constructor
    · intro h
      rw [h1] at h
      cases h
    · intro h
      rw [h2] at h
      omega

abbrev s__law_can_come : Stmt := (top 13)
theorem sc__law_can_come : FnScope ["octets", "lead", "count", "bits", "octet", "low", "high", "k"] ["octets"] (defScope s__law_can_come) := ⟨rfl, rfl, rfl, by decide +kernel, rfl, by decide +kernel, by decide +kernel⟩
abbrev s__law_octets : Stmt := (top 12)
theorem sc__law_octets : FnScope ["state", "octets", "k", "edges", "at", "pick", "odd"] ["state"] (defScope s__law_octets) := ⟨rfl, rfl, rfl, by decide +kernel, rfl, by decide +kernel, by decide +kernel⟩
def sp__law_can_come (K : Frg) : Sp := sp1 fun a H Q _ => ∃ p zs, a = .ref p ∧ H p = some (.lst (zs.map V.int)) ∧ zs ≠ [] ∧ (∀ z ∈ zs, 0 ≤ z) ∧ zs.length < 1000 ∧ ∀ H', Same H H' → Q (.int (can8 zs)) H'
/-- an if whose test is known -/
theorem r_ifB {σ : St} {H : Hp} {D : Ends} {tt : TT} {t u : TS} (b : Bool) (ht : ∀ R : Bool → Hp → Prop, R b H → tt σ H R) (h : if b = true then t D σ H else u D σ H) : tIfS tt t u D σ H := ht _ h
theorem r_sl {σ : St} {H : Hp} {Q : VK} {r : V → Option Int → Option Int → Hp → VK → Prop} {te : TE} {tl th : TO} (h : te σ H fun x H1 => tl σ H1 fun l H2 => th σ H2 fun u H3 => r x l u H3 Q) : tSl r te tl th σ H Q := h
theorem r_part {σ : St} {H : Hp} {t : TE} {Q : Option Int → Hp → Prop} (h : t σ H fun x H1 => ∃ i, x = .int i ∧ Q (some i) H1) : tPart t σ H Q := h
theorem r_some {i : Int} {Q : Option Int → Prop} (h : Q (some i)) : ∃ j, V.int i = .int j ∧ Q (some j) := ⟨i, rfl, h⟩
theorem r_nopart {σ : St} {H : Hp} {Q : Option Int → Hp → Prop} (h : Q none H) : tNoPart σ H Q := h
theorem r_slL {K : PySem.W.Frag} {p : Addr} {xs : List V} {lo hi : Option Int} {H : Hp} {Q : VK} (hs : SqL K H p xs) (h : ∀ q, H q = none → Q (.ref q) (upd H q (.lst (cutV xs lo hi)))) : rSlL K (.ref p) lo hi H Q := ⟨p, xs, rfl, hs, h⟩
theorem cut_tl {v : V} {xs : List V} : cutV (v :: xs) (some 1) none = xs := by
  have e : HT.sIx (v :: xs).length 0 (some 1) = 1 := (HT.sIx_nat (v :: xs).length 0 1).trans (by show min 1 (xs.length + 1) = 1; omega)
  unfold cutV
  rw [e, HT.sIx_none]
  show xs.take (xs.length + 1 - 1) = xs
  simp
theorem r_min2 {σ : St} {H : Hp} {Q : VK} {K : PySem.W.Frag} {p : Addr} {x y : Int} (hs : H p = some (.lst [.int x, .int y])) (h : Q (.int (min x y)) H) : rMin K [.ref p] H Q := by
  refine ⟨p, [x, y], rfl, SqL.of hs, by show 0 < 2; decide, fun m hm hle => ?_⟩
  have h1 := hle x (by simp)
  have h2 := hle y (by simp)
  have e : m = min x y := by
    rcases List.mem_cons.mp hm with e | e
    · omega
    · rcases List.mem_cons.mp e with e | e
      · omega
      · cases e
  rw [e]
  exact h
theorem can8_is {z : Int} {zs : List Int} (hb : ¬ bad8 z) (hz : ∀ x ∈ zs, mid8 x) : can8 (z :: zs) = fin8 (cnt8 z) (bits8 (z - base8 (cnt8 z)) zs) (cnt8 z - ((zs.length : Nat) + 1)) := by
  show (if bad8 z then -1 else if ∀ x ∈ zs, mid8 x then _ else -1) = _
  rw [if_neg hb, if_pos hz]
theorem can8_not {z : Int} {zs : List Int} (hb : ¬ bad8 z) (hz : ¬ ∀ x ∈ zs, mid8 x) : can8 (z :: zs) = -1 := by
  show (if bad8 z then -1 else if ∀ x ∈ zs, mid8 x then _ else -1) = _
  rw [if_neg hb, if_neg hz]
theorem at_base8 {c : Int} (h : c = 1 ∨ c = 2 ∨ c = 3 ∨ c = 4) : atI [V.int 0, V.int 192, V.int 224, V.int 240] (c - 1) = some (.int (base8 c)) := by rcases h with e | e | e | e <;> rw [e] <;> rfl
theorem at_min8 {c : Int} (h : c = 1 ∨ c = 2 ∨ c = 3 ∨ c = 4) : atI [V.int 0, V.int 128, V.int 2048, V.int 65536] (c - 1) = some (.int (min8 c)) := by rcases h with e | e | e | e <;> rw [e] <;> rfl
theorem at_max8 {c : Int} (h : c = 1 ∨ c = 2 ∨ c = 3 ∨ c = 4) : atI [V.int 127, V.int 2047, V.int 65535, V.int 1114111] (c - 1) = some (.int (max8 c)) := by rcases h with e | e | e | e <;> rw [e] <;> rfl
theorem at0 {v : V} {xs : List V} : atI (v :: xs) 0 = some v := atI_nat (xs := v :: xs) (j := 0) rfl
section
variable {P : Program} {w : World} {K : PySem.W.Frag} {mg : Str → Option Value} {base : Heap} {f : Addr} {fd : FuncData}
theorem ok__law_can_come (F : FunD K "_law_can_come" "_law_can_come" (defArgs s__law_can_come) (defBody s__law_can_come) (defScope s__law_can_come) [] [] (glAd "_law_can_come" K) fd) (m : mg "_law_can_come" = some (.ref (glAd "_law_can_come" K))) (nb : Nm K mg) : Cal P w K mg base 1 "_law_can_come" (sp__law_can_come K) [] := by
  refine calD F m sc__law_can_come (fun _ _ _ _ _ _ us hl => match us, hl with | [_], _ => rfl) len1 (fun cdv A outer s H vs Q E hr h => ⟨_, (pss_cons (ps_set (i := 1) sc__law_can_come.nd rfl (Or.inl rfl) (pe_ix ix_list (pv 0) pe_int (fun _ _ => rfl)))
    (pss_cons (ps_set (i := 2) sc__law_can_come.nd rfl (Or.inl rfl) (pe_op op_add (pe_op op_add (pe_op op_add pe_int (pe_callTy call_int1 (by rfl) nb.int (by decide +kernel) (pa_cons (pe_cmpR op_ge (pv 1) pe_int (nomark _)) pa_nil))) (pe_callTy call_int1 (by rfl) nb.int (by decide +kernel) (pa_cons (pe_cmpR op_ge (pv 1) pe_int (nomark _)) pa_nil))) (pe_callTy call_int1 (by rfl) nb.int (by decide +kernel) (pa_cons (pe_cmpR op_ge (pv 1) pe_int (nomark _)) pa_nil))))
    (pss_cons (ps_if (PW.pt (pw_or (pt_cmpR op_ge (pv 1) pe_int (nomark _)) (pw_or1 (PW.pt (pw_and (pt_cmpR op_le pe_int (pv 1) (nomark _)) (pw_and1 (pt_cmpR op_lt (pv 1) pe_int (nomark _))))))))
    (pss_one (ps_ret (pe_un un_neg pe_int)))
    pss_nil)
    (pss_cons (ps_set (i := 3) sc__law_can_come.nd rfl (Or.inl rfl) (pe_op op_sub (pv 1) (pe_ix ix_list (pe_lst (pa_cons pe_int (pa_cons pe_int (pa_cons pe_int (pa_cons pe_int pa_nil))))) (pe_op op_sub (pv 2) pe_int) (fun _ _ => rfl))))
    (pss_cons (ps_for PassesOwn.never rfl (pi_list (pe_slice sl_list (pv 0) (po_some pe_int) po_none)) (pg_name (i := 4) sc__law_can_come.nd rfl (Or.inl rfl))
    (pss_cons (ps_if (PW.pt (pw_or (pt_cmpR op_lt (pv 4) pe_int (nomark _)) (pw_or1 (pt_cmpR op_gt (pv 4) pe_int (nomark _)))))
    (pss_one (ps_ret (pe_un un_neg pe_int)))
    pss_nil)
    (pss_one (ps_set (i := 3) sc__law_can_come.nd rfl (Or.inl rfl) (pe_op op_sub (pe_op op_add (pe_op op_mul (pv 3) pe_int) (pv 4)) pe_int)))))
    (pss_cons (ps_set (i := 5) sc__law_can_come.nd rfl (Or.inl rfl) (pv 3))
    (pss_cons (ps_set (i := 6) sc__law_can_come.nd rfl (Or.inl rfl) (pv 3))
    (pss_cons (ps_for PassesOwn.never rfl (pi_range1 rfl nb.range (pa_cons (pe_op op_sub (pv 2) (pe_callB call_len_seq (by rfl) nb.len PySem.boot_len (pa_cons (pv 0) pa_nil))) pa_nil)) (pg_name (i := 7) sc__law_can_come.nd rfl (Or.inl rfl))
    (pss_cons (ps_set (i := 5) sc__law_can_come.nd rfl (Or.inl rfl) (pe_op op_mul (pv 5) pe_int))
    (pss_one (ps_set (i := 6) sc__law_can_come.nd rfl (Or.inl rfl) (pe_op op_add (pe_op op_mul (pv 6) pe_int) pe_int)))))
    (pss_cons (ps_set (i := 5) sc__law_can_come.nd rfl (Or.inl rfl) (pe_callB (cr_max rfl) (by rfl) nb.max (by decide +kernel) (pa_cons (pe_lst (pa_cons (pv 5) (pa_cons (pe_ix ix_list (pe_lst (pa_cons pe_int (pa_cons pe_int (pa_cons pe_int (pa_cons pe_int pa_nil))))) (pe_op op_sub (pv 2) pe_int) (fun _ _ => rfl)) pa_nil))) pa_nil)))
    (pss_cons (ps_set (i := 6) sc__law_can_come.nd rfl (Or.inl rfl) (pe_callB (cr_min rfl) (by rfl) nb.min (by decide +kernel) (pa_cons (pe_lst (pa_cons (pv 6) (pa_cons (pe_ix ix_list (pe_lst (pa_cons pe_int (pa_cons pe_int (pa_cons pe_int (pa_cons pe_int pa_nil))))) (pe_op op_sub (pv 2) pe_int) (fun _ _ => rfl)) pa_nil))) pa_nil)))
    (pss_cons (ps_if (PW.pt (pw_or (pt_cmpR op_gt (pv 5) (pv 6) (nomark _)) (pw_or1 (PW.pt (pw_and (pt_cmpR op_ge (pv 5) pe_int (nomark _)) (pw_and1 (pt_cmpR op_le (pv 6) pe_int (nomark _))))))))
    (pss_one (ps_ret (pe_un un_neg pe_int)))
    pss_nil)
    (pss_one (ps_ret (pe_op op_sub (pv 2) (pe_callB call_len_seq (by rfl) nb.len PySem.boot_len (pa_cons (pv 0) pa_nil)))))))))))))))), ?_⟩)
  obtain ⟨_, rfl, p, zs, rfl, hp, hne, h0, hn, h⟩ := h
  obtain ⟨z, zs, rfl⟩ : ∃ y ys, zs = y :: ys := match zs, hne with | y :: ys, _ => ⟨y, ys, rfl⟩
  walk_at "rd"
  refine r_ixL (SqL.of hp) at0 ?_
  walk_at "rd"
  refine .inr ⟨_, rfl, ?_⟩
  walk_at "rd"
  refine .inr ⟨_, rfl, ?_⟩
  walk_at "rd"
  refine .inr ⟨_, rfl, ?_⟩
  walk_at "ri"
  have ec : 1 + (if decide (z ≥ 192) = true then 1 else 0) + (if decide (z ≥ 224) = true then 1 else 0) + (if decide (z ≥ 240) = true then 1 else 0) = cnt8 z := by
    unfold cnt8
    simp
  rw [ec]
  refine r_ifB (decide (bad8 z)) ?_ ?_
  · intro R hR
    walk_at "rd"
    refine r_ite (fun c1 => ?_) (fun c1 => ?_)
    · rw [decide_eq_true (show bad8 z from .inl c1)] at hR
      walk_at "rd"
      exact hR
    · walk_at "rd"
      refine r_ite (fun c2 => ?_) (fun c2 => ?_)
      · walk_at "rd"
        have e : decide (z < 192) = decide (bad8 z) := by
          by_cases c3 : z < 192
          · rw [decide_eq_true c3, decide_eq_true (show bad8 z from .inr ⟨c2, c3⟩)]
          · rw [decide_eq_false c3, decide_eq_false (show ¬ bad8 z from fun q => by rcases q with q | q <;> omega)]
        rw [e]
        exact hR
      · rw [decide_eq_false (show ¬ bad8 z from fun q => by rcases q with q | q <;> omega)] at hR
        exact hR
  refine r_ite (fun hb => ?_) (fun hb => ?_)
  · walk_at "rd"
    have e : can8 (z :: zs) = -1 := if_pos hb
    rw [e] at h
    exact h H (Same.refl _)
  have hcnt : cnt8 z = 1 ∨ cnt8 z = 2 ∨ cnt8 z = 3 ∨ cnt8 z = 4 := by
    unfold cnt8
    split <;> split <;> split <;> omega
  walk_at "rd"
  refine ⟨by show 4 ≤ sizeLine; decide, fun p1 n1 => ?_⟩
  walk_at "rd"
  have s1 := same_upd n1 (.lst [.int 0, .int 192, .int 224, .int 240])
  refine r_ixL (SqL.of upd_same) (at_base8 hcnt) ?_
  have hp1 := s1 _ _ hp
  generalize upd H p1 (.lst [.int 0, .int 192, .int 224, .int 240]) = H1 at s1 hp1 ⊢
  walk_at "rd"
  refine r_itL (r_sl ?_)
  walk_at "rd"
  refine r_part ?_
  walk_at "rd"
  refine ⟨1, rfl, ?_⟩
  refine r_nopart ?_
  refine r_slL (SqL.of hp1) fun p2 n2 => ?_
  have s2 := same_upd n2 (.lst (cutV ((z :: zs).map V.int) (some 1) none))
  have hp3 : upd H1 p2 (.lst (cutV ((z :: zs).map V.int) (some 1) none)) p2 = some (.lst (zs.map V.int)) := by
    rw [upd_same]
    exact congrArg (fun l => some (HO.lst l)) cut_tl
  have s02 := s1.trans s2
  have hp2 := s2 _ _ hp1
  generalize upd H1 p2 (.lst (cutV ((z :: zs).map V.int) (some 1) none)) = H2 at hp3 s02 hp2 ⊢
  have hzl : zs.length < 999 := by
    have : zs.length + 1 < 1000 := hn
    omega
  refine ⟨p2, rfl, ⟨_, SqL.of hp3⟩, r_eachL (xs := zs.map V.int) (fun i σ H' => H2 = H' ∧ (∀ x ∈ zs.take i, mid8 x) ∧ ∃ y, σ = [some (.ref p), some (.int z), some (.int (cnt8 z)), some (.int (bits8 (z - base8 (cnt8 z)) (zs.take i))), y, none, none, none]) ⟨rfl, fun x hx => by simp at hx, _, rfl⟩ ?_ ?_ ?_⟩
  · rintro i σ _ ⟨rfl, _⟩
    exact SqL.of hp3
  · rintro i x σ _ hx ⟨rfl, hm, y, rfl⟩
    obtain ⟨c, hi, rfl, e⟩ := ints_get hx
    walk_at "ri"
    refine r_ifB (decide (¬ mid8 c)) ?_ ?_
    · intro R hR
      walk_at "rd"
      refine r_ite (fun c1 => ?_) (fun c1 => ?_)
      · rw [decide_eq_true (show ¬ mid8 c from fun q => by have := q.1; omega)] at hR
        walk_at "rd"
        exact hR
      · walk_at "rd"
        have e2 : decide (191 < c) = decide (¬ mid8 c) := by
          by_cases c2 : 191 < c
          · rw [decide_eq_true c2, decide_eq_true (show ¬ mid8 c from fun q => by have := q.2; omega)]
          · rw [decide_eq_false c2, decide_eq_false (show ¬ ¬ mid8 c from fun q => q ⟨by omega, by omega⟩)]
        first
          | (rw [e2]; exact hR)
          | (rw [show decide (c > 191) = decide (¬ mid8 c) from e2]; exact hR)
    refine r_ite (fun c3 => ?_) (fun c3 => ?_)
    · walk_at "rd"
      rw [can8_not hb (fun q => c3 (q c (List.mem_of_getElem? hi)))] at h
      exact h _ s02
    · walk_at "rd"
      refine ⟨rfl, ?_, some (.int c), ?_⟩
      · intro x hx'
        rw [e] at hx'
        rcases List.mem_append.mp hx' with q | q
        · exact hm x q
        · have e5 : x = c := by simpa using q
          rw [e5]
          exact Decidable.not_not.mp c3
      · rw [e, bits8_snoc]
        rfl
  rintro σ _ ⟨rfl, hm, y, rfl⟩
  rw [List.length_map, List.take_length] at hm ⊢
  rw [can8_is hb hm] at h
  generalize bits8 (z - base8 (cnt8 z)) zs = b at h ⊢
  walk_at "rd"
  refine ⟨p, _, rfl, .inl (SqL.of hp2), ?_⟩
  rw [List.length_map]
  walk_at "rd"
  have er : cnt8 z - (((z :: zs).length : Nat) : Int) = cnt8 z - ((zs.length : Nat) + 1) := by
    show cnt8 z - ((zs.length + 1 : Nat) : Int) = _
    omega
  rw [er]
  generalize hr' : cnt8 z - ((zs.length : Nat) + 1) = r at h ⊢
  have low0 : ∀ w : Int, w * 64 ^ 0 = w := fun w => by rw [Int.pow_zero, Int.mul_one]
  refine r_turns (by omega) (by omega) (fun k σ H' => H2 = H' ∧ ∃ y', σ = [some (.ref p), some (.int z), some (.int (cnt8 z)), some (.int b), y, some (.int (b * 64 ^ k)), some (.int (b * 64 ^ k + 64 ^ k - 1)), y']) ⟨rfl, none, ?_⟩ ?_ ?_
  · rw [low0, show b + (64 : Int) ^ 0 - 1 = b by rw [Int.pow_zero]; omega]
    rfl
  · rintro k σ _ hk ⟨rfl, y', rfl⟩
    walk_at "rd"
    refine ⟨rfl, some (.int (k : Nat)), ?_⟩
    have e1 : b * 64 ^ (k + 1) = b * 64 ^ k * 64 := by rw [Int.pow_succ, Int.mul_assoc]
    have e2 : (b * 64 ^ k + 64 ^ k - 1) * 64 + 63 = b * 64 ^ (k + 1) + 64 ^ (k + 1) - 1 := by
      rw [e1, Int.pow_succ]
      omega
    rw [← e2, e1]
    rfl
  rintro σ _ ⟨rfl, y', rfl⟩
  walk_at "rd"
  refine ⟨by show 4 ≤ sizeLine; decide, fun p3 n3 => ?_⟩
  walk_at "rd"
  have s3 := s02.trans (same_upd n3 (.lst [.int 0, .int 128, .int 2048, .int 65536]))
  have hp3' := same_upd n3 (.lst [.int 0, .int 128, .int 2048, .int 65536]) _ _ hp2
  refine r_ixL (SqL.of upd_same) (at_min8 hcnt) ?_
  generalize upd H2 p3 (.lst [.int 0, .int 128, .int 2048, .int 65536]) = H3 at s3 hp3' ⊢
  walk_at "rd"
  refine ⟨by show 2 ≤ sizeLine; decide, fun p4 n4 => ?_⟩
  walk_at "rd"
  refine r_max2 upd_same ?_
  have s4 := s3.trans (same_upd n4 (.lst [.int (b * 64 ^ r.toNat), .int (min8 (cnt8 z))]))
  have hp4 := same_upd n4 (.lst [.int (b * 64 ^ r.toNat), .int (min8 (cnt8 z))]) _ _ hp3'
  generalize upd H3 p4 (.lst [.int (b * 64 ^ r.toNat), .int (min8 (cnt8 z))]) = H4 at s4 hp4 ⊢
  walk_at "rd"
  refine ⟨by show 4 ≤ sizeLine; decide, fun p5 n5 => ?_⟩
  walk_at "rd"
  have s5 := s4.trans (same_upd n5 (.lst [.int 127, .int 2047, .int 65535, .int 1114111]))
  have hp5 := same_upd n5 (.lst [.int 127, .int 2047, .int 65535, .int 1114111]) _ _ hp4
  refine r_ixL (SqL.of upd_same) (at_max8 hcnt) ?_
  generalize upd H4 p5 (.lst [.int 127, .int 2047, .int 65535, .int 1114111]) = H5 at s5 hp5 ⊢
  walk_at "rd"
  refine ⟨by show 2 ≤ sizeLine; decide, fun p6 n6 => ?_⟩
  walk_at "ri"
  refine r_min2 (σ := []) upd_same ?_
  have s6 := s5.trans (same_upd n6 (.lst [.int (b * 64 ^ r.toNat + 64 ^ r.toNat - 1), .int (max8 (cnt8 z))]))
  have hp6 := same_upd n6 (.lst [.int (b * 64 ^ r.toNat + 64 ^ r.toNat - 1), .int (max8 (cnt8 z))]) _ _ hp5
  generalize upd H5 p6 (.lst [.int (b * 64 ^ r.toNat + 64 ^ r.toNat - 1), .int (max8 (cnt8 z))]) = H6 at s6 hp6 ⊢
  unfold fin8 at h
  generalize max (b * 64 ^ r.toNat) (min8 (cnt8 z)) = lo at h ⊢
  generalize min (b * 64 ^ r.toNat + 64 ^ r.toNat - 1) (max8 (cnt8 z)) = hi at h ⊢
  walk_at "ri"
  refine r_ifB (decide (lo > hi ∨ (lo ≥ 55296 ∧ hi ≤ 57343))) ?_ ?_
  · intro R hR
    walk_at "rd"
    refine r_ite (fun c1 => ?_) (fun c1 => ?_)
    · rw [decide_eq_true (show lo > hi ∨ (lo ≥ 55296 ∧ hi ≤ 57343) from .inl c1)] at hR
      walk_at "rd"
      exact hR
    · walk_at "rd"
      refine r_ite (fun c2 => ?_) (fun c2 => ?_)
      · walk_at "rd"
        have e : decide (hi ≤ 57343) = decide (lo > hi ∨ (lo ≥ 55296 ∧ hi ≤ 57343)) := by
          by_cases c3 : hi ≤ 57343
          · rw [decide_eq_true c3, decide_eq_true (show lo > hi ∨ (lo ≥ 55296 ∧ hi ≤ 57343) from .inr ⟨c2, c3⟩)]
          · rw [decide_eq_false c3, decide_eq_false (show ¬ (lo > hi ∨ (lo ≥ 55296 ∧ hi ≤ 57343)) by omega)]
        rw [e]
        exact hR
      · rw [decide_eq_false (show ¬ (lo > hi ∨ (lo ≥ 55296 ∧ hi ≤ 57343)) by omega)] at hR
        exact hR
  refine r_ite (fun c3 => ?_) (fun c3 => ?_)
  · rw [if_pos c3] at h
    walk_at "rd"
    exact h _ s6
  · rw [if_neg c3] at h
    walk_at "rd"
    refine ⟨p, _, rfl, .inl (SqL.of hp6), ?_⟩
    rw [List.length_map]
    walk_at "rd"
    rw [er, hr']
    exact h _ s6
theorem cut_ints (zs : List Int) (lo hi : Option Int) : ∃ ws : List Int, cutV (zs.map V.int) lo hi = ws.map V.int ∧ (∀ x ∈ ws, x ∈ zs) ∧ ws.length ≤ zs.length := by
  refine ⟨(zs.drop (HT.sIx (zs.map V.int).length 0 lo)).take (HT.sIx (zs.map V.int).length (zs.map V.int).length hi - HT.sIx (zs.map V.int).length 0 lo), ?_, ?_, ?_⟩
  · unfold cutV
    rw [List.map_take, List.map_drop]
  · intro x hx
    exact List.mem_of_mem_drop (List.mem_of_mem_take hx)
  · rw [List.length_take, List.length_drop]
    omega
/-- a slice of a row of numbers in a slot -/
theorem d_cut {σ : St} {H : Hp} {Q : VK} {K : PySem.W.Frag} {k : Nat} {o : Addr} {zs : List Int} {tl th : TO} (lo hi : Option Int) (e : σ[k]? = some (some (.ref o))) (g : H o = some (.lst (zs.map V.int))) (hl : ∀ R : Option Int → Hp → Prop, R lo H → tl σ H R) (hh : ∀ R : Option Int → Hp → Prop, R hi H → th σ H R)
    (h : ∀ (q : Addr) (ws : List Int), H q = none → (∀ x ∈ ws, x ∈ zs) → ws.length ≤ zs.length → Q (.ref q) (upd H q (.lst (ws.map V.int)))) : tSl (rSlL K) (tVar k) tl th σ H Q := by
  refine r_sl ⟨_, e, hl _ (hh _ ?_)⟩
  obtain ⟨ws, e1, e2, e3⟩ := cut_ints zs lo hi
  refine r_slL (SqL.of g) fun q nq => ?_
  rw [e1]
  exact h q ws nq e2 e3
def Oct (z : Int) : Prop := 0 ≤ z ∧ z ≤ 255
def edges12 : List Int := [0, 127, 128, 2047, 2048, 55295, 57344, 65535, 65536, 1114111, 97, 8364]
theorem edges12_point : ∀ c ∈ edges12, Point c := by
  unfold Point
  decide
def odds15 : List Int := [128, 191, 192, 193, 224, 237, 240, 244, 245, 255, 97, 159, 160, 143, 144]
theorem odds15_oct : ∀ c ∈ odds15, Oct c := by
  unfold Oct
  decide
theorem enc1_oct {c : Int} (h : Point c) : ∀ x ∈ enc1 c, Oct x := by
  obtain ⟨h1, h2, _⟩ := h
  unfold Oct
  by_cases c0 : c < 128
  · rw [enc_low c0]
    intro x hx
    have e : x = c := by simpa using hx
    omega
  · rcases enc_long (by omega : 128 ≤ c) with ⟨_, _, e2⟩ | ⟨_, _, _, e2⟩ | ⟨_, _, e2⟩ <;> rw [e2] <;> intro x hx <;> simp only [List.mem_cons, List.not_mem_nil, or_false] at hx
    · rcases hx with e | e <;> omega
    · rcases hx with e | e | e <;> omega
    · rcases hx with e | e | e | e <;> omega
theorem oct_app {a b : List Int} (h1 : ∀ x ∈ a, Oct x) (h2 : ∀ x ∈ b, Oct x) : ∀ x ∈ a ++ b, Oct x := fun x hx => (List.mem_append.mp hx).elim (h1 x) (h2 x)
def sp__law_octets (K : Frg) : Sp := sp1 fun a H Q _ => ∃ S, a = .ref S.a ∧ LS K S H ∧ ∀ p (zs : List Int) H', (∀ z ∈ zs, Oct z) → zs.length < 100 → H' p = some (.lst (zs.map V.int)) → LS K S H' → Keep S H H' → Q (.ref p) H'
theorem cat_ints (a b : List Int) : a.map V.int ++ b.map V.int = (a ++ b).map V.int := by simp
/-- a row of octets in the walk -/
def Row8 (K : Frg) (S : SC) (H H' : Hp) (o : Addr) (m : Nat) : Prop := LS K S H' ∧ Keep S H H' ∧ ∃ zs : List Int, H' o = some (.lst (zs.map V.int)) ∧ (∀ z ∈ zs, Oct z) ∧ zs.length < m
theorem ok__law_octets (F : FunD K "_law_octets" "_law_octets" (defArgs s__law_octets) (defBody s__law_octets) (defScope s__law_octets) [] [] (glAd "_law_octets" K) fd) (m : mg "_law_octets" = some (.ref (glAd "_law_octets" K))) (nb : Nm K mg) (c__law_next : Cal P w K mg base 1 "_law_next" (sp__law_next K) []) (c__law_written : Cal P w K mg base 1 "_law_written" sp__law_written []) : Cal P w K mg base 2 "_law_octets" (sp__law_octets K) [] := by
  refine calD F m sc__law_octets (fun _ _ _ _ _ _ us hl => match us, hl with | [_], _ => rfl) len1 (fun cdv A outer s H vs Q E hr h => ⟨_, (pss_cons (ps_set (i := 1) sc__law_octets.nd rfl (Or.inl rfl) (pe_lst pa_nil))
    (pss_cons (ps_if (pt_cmpR op_eq (pe_c c__law_next hr (by decide) rfl (pa_cons (pv 0) (pa_cons pe_int pa_nil))) pe_int (nomark _))
    (pss_one (ps_ret (pe_lc (own := [("k", 2)]) (g := gName 2) (tt := tYes) rfl sc__law_octets.nd (pi_range1 rfl nb.range (pa_cons (pe_op op_add pe_int (pe_c c__law_next hr (by decide) rfl (pa_cons (pv 0) (pa_cons pe_int pa_nil)))) pa_nil)) (blkOk_by (N := ["state", "octets", "k", "edges", "at", "pick", "odd"]) (sc := defScope s__law_octets) (by decide +kernel)) (fun _ _ _ _ _ => pg_name (i := 2) sc__law_octets.nd rfl (Or.inl rfl)) (fun _ _ _ _ _ => pts_nil) (fun _ _ _ _ _ => (pe_op op_add pe_int (pe_c c__law_next hr (by decide) rfl (pa_cons (pv 0) (pa_cons pe_int pa_nil))))))))
    pss_nil)
    (pss_cons (ps_for PassesOwn.never rfl (pi_range1 rfl nb.range (pa_cons (pe_c c__law_next hr (by decide) rfl (pa_cons (pv 0) (pa_cons pe_int pa_nil))) pa_nil)) (pg_name (i := 2) sc__law_octets.nd rfl (Or.inl rfl))
    (pss_cons (ps_set (i := 3) sc__law_octets.nd rfl (Or.inl rfl) (pe_lst (pa_cons pe_int (pa_cons pe_int (pa_cons pe_int (pa_cons pe_int (pa_cons pe_int (pa_cons pe_int (pa_cons pe_int (pa_cons pe_int (pa_cons pe_int (pa_cons pe_int (pa_cons pe_int (pa_cons pe_int pa_nil))))))))))))))
    (pss_one (ps_set (i := 1) sc__law_octets.nd rfl (Or.inl rfl) (pe_op op_cat (pv 1) (pe_c c__law_written hr (by decide) rfl (pa_cons (pe_ix ix_list (pv 3) (pe_c c__law_next hr (by decide) rfl (pa_cons (pv 0) (pa_cons pe_int pa_nil))) (fun _ _ => rfl)) pa_nil)))))))
    (pss_cons (ps_for PassesOwn.never rfl (pi_range1 rfl nb.range (pa_cons (pe_c c__law_next hr (by decide) rfl (pa_cons (pv 0) (pa_cons pe_int pa_nil))) pa_nil)) (pg_name (i := 2) sc__law_octets.nd rfl (Or.inl rfl))
    (pss_cons (ps_set (i := 4) sc__law_octets.nd rfl (Or.inl rfl) (pe_c c__law_next hr (by decide) rfl (pa_cons (pv 0) (pa_cons (pe_op op_add (pe_callB call_len_seq (by rfl) nb.len PySem.boot_len (pa_cons (pv 1) pa_nil)) pe_int) pa_nil))))
    (pss_cons (ps_set (i := 5) sc__law_octets.nd rfl (Or.inl rfl) (pe_c c__law_next hr (by decide) rfl (pa_cons (pv 0) (pa_cons pe_int pa_nil))))
    (pss_cons (ps_set (i := 6) sc__law_octets.nd rfl (Or.inl rfl) (pe_ix ix_list (pe_lst (pa_cons pe_int (pa_cons pe_int (pa_cons pe_int (pa_cons pe_int (pa_cons pe_int (pa_cons pe_int (pa_cons pe_int (pa_cons pe_int (pa_cons pe_int (pa_cons pe_int (pa_cons pe_int (pa_cons pe_int (pa_cons pe_int (pa_cons pe_int (pa_cons pe_int pa_nil)))))))))))))))) (pe_c c__law_next hr (by decide) rfl (pa_cons (pv 0) (pa_cons pe_int pa_nil))) (fun _ _ => rfl)))
    (pss_one (ps_if (pt_cmpR op_eq (pv 5) pe_int (nomark _))
    (pss_one (ps_set (i := 1) sc__law_octets.nd rfl (Or.inl rfl) (pe_op op_cat (pe_slice sl_list (pv 1) po_none (po_some (pv 4))) (pe_slice sl_list (pv 1) (po_some (pe_op op_add (pv 4) pe_int)) po_none))))
    (pss_one (ps_if (pt_cmpR op_eq (pv 5) pe_int (nomark _))
    (pss_one (ps_set (i := 1) sc__law_octets.nd rfl (Or.inl rfl) (pe_op op_cat (pe_op op_cat (pe_slice sl_list (pv 1) po_none (po_some (pv 4))) (pe_lst (pa_cons (pv 6) pa_nil))) (pe_slice sl_list (pv 1) (po_some (pv 4)) po_none))))
    (pss_one (ps_if (pt_cmpR op_eq (pv 5) pe_int (nomark _))
    (pss_one (ps_set (i := 1) sc__law_octets.nd rfl (Or.inl rfl) (pe_op op_cat (pe_op op_cat (pe_slice sl_list (pv 1) po_none (po_some (pv 4))) (pe_lst (pa_cons (pv 6) pa_nil))) (pe_slice sl_list (pv 1) (po_some (pe_op op_add (pv 4) pe_int)) po_none))))
    (pss_one (ps_set (i := 1) sc__law_octets.nd rfl (Or.inl rfl) (pe_slice sl_list (pv 1) po_none (po_some (pv 4)))))))))))))))
    (pss_one (ps_ret (pv 1))))))), ?_⟩)
  obtain ⟨_, rfl, S, rfl, L, h⟩ := h
  walk_at "rd"
  refine ⟨Nat.zero_le _, fun o0 n0 => ?_⟩
  have L0 := L.new n0 (.lst [])
  have k0 : Keep S H (upd H o0 (.lst [])) := Keep.of (same_upd n0 _)
  have hO : upd H o0 (.lst []) o0 = some (.lst []) := upd_same
  have no0 := L.ne_free n0
  walk_at "rd"
  refine d_next L0 (by decide) fun r1 H1 a1 b1 L1 k1 => ?_
  have hO1 := k1 _ _ no0 hO
  have k01 := k0.trans k1
  clear L0 k0 k1 hO
  walk_at "rd"
  refine r_ite (fun c1 => ?_) (fun c1 => ?_)
  · walk_at "rd"
    refine r_lc0 ?_
    walk_at "rd"
    refine d_next L1 (by decide) fun n H2 a2 b2 L2 k2 => ?_
    walk_at "rd"
    refine ⟨by omega, by omega, fun D hD => ?_⟩
    have k02 := k01.trans k2
    refine lc_range (fun i H' => LS K S H' ∧ Keep S H H' ∧ ∃ cs : List Int, cs.length = i ∧ (∀ c ∈ cs, Oct c) ∧ H' D = some (.lst (cs.map V.int))) ⟨L2.new hD _, k02.trans (Keep.of (same_upd hD _)), [], by rfl, fun _ h => absurd h (by simp), upd_same⟩ ?_ ?_
    · rintro i H' hi ⟨L', k', cs, e1, e2, e3⟩
      walk_at "rd"
      refine ⟨rfl, ?_⟩
      walk_at "rd"
      refine d_next L' (by decide) fun c H4 a4 b4 L4 k4 => ?_
      walk_at "rd"
      refine ⟨_, k4 _ _ (L2.ne_free hD) e3, small1000 (by rw [List.length_map]; omega), L2.away hD L4 _, ?_, cs ++ [120 + c], by rw [List.length_append, e1]; rfl, ?_, ?_⟩
      · intro b u hb hu
        have q := (k'.trans k4) b u hb hu
        by_cases e : b = D
        · rw [e] at hu
          have := k02 _ _ (L2.ne_free hD) hu
          rw [hD] at this
          cases this
        · rw [upd_ne e]
          exact q
      · refine oct_app e2 fun x hx => ?_
        have e5 : x = 120 + c := by simpa using hx
        rw [e5]
        exact ⟨by omega, by omega⟩
      · rw [upd_same, map_snoc]
    · rintro H3 ⟨L3, k3, cs, e1, hc, hP⟩
      walk_at "rd"
      exact h D cs H3 hc (by omega) hP L3 k3
  walk_at "rd"
  refine d_next L1 (by decide) fun r2 H2 a2 b2 L2 k2 => ?_
  walk_at "rd"
  refine r_turns (by omega) (by omega) (fun i σ H' => ∃ o y e, σ = [some (.ref S.a), some (.ref o), y, e, none, none, none] ∧ o ≠ S.a ∧ Row8 K S H H' o (4 * i + 1)) ⟨o0, none, none, rfl, no0, L2, k01.trans k2, [], k2 _ _ no0 hO1, fun _ h => absurd h (by simp), by decide⟩ ?_ ?_
  · rintro i σ H3 hi ⟨o, y, e, rfl, no, L3, k3, zs, g1, g2, g3⟩
    walk_at "rd"
    refine ⟨by show 12 ≤ sizeLine; decide, fun p np => ?_⟩
    have hE : upd H3 p (.lst (edges12.map V.int)) p = some (.lst (edges12.map V.int)) := upd_same
    have s4 := same_upd np (.lst (edges12.map V.int))
    have L4 := L3.new np (.lst (edges12.map V.int))
    have pa := L3.ne_free np
    walk_at "rd"
    refine d_next L4 (by decide) fun r5 H5 a5 b5 L5 k5 => ?_
    obtain ⟨v, hv, ev⟩ := atI_ints (ns := edges12) (k := r5) a5 b5
    refine r_ixL (SqL.of (k5 _ _ pa hE)) ev ?_
    walk_at "rd"
    refine ⟨_, rfl, v, rfl, fun q H6 nq hq s6 => ?_⟩
    have g6 := s6 _ _ (k5 _ _ no (s4 _ _ g1))
    have lv := (len_enc1 v).2
    walk_at "rd"
    refine ⟨o, q, _, _, rfl, rfl, g6, hq, Nat.le_of_lt (small1000 (by rw [List.length_map, List.length_map]; omega)), fun t nt => ?_⟩
    have L6 := L5.same s6
    walk_at "rd"
    refine ⟨t, _, _, rfl, L6.ne_free nt, L6.new nt _, (((k3.trans (Keep.of s4)).trans k5).trans (Keep.of s6)).trans (Keep.of (same_upd nt _)), zs ++ enc1 v, ?_, oct_app g2 (enc1_oct (edges12_point v hv)), ?_⟩
    · rw [upd_same, cat_ints]
    · rw [List.length_append]
      omega
  rintro σ H3 ⟨o, y, e, rfl, no, L3, k3, zs, g1, g2, g3⟩
  walk_at "rd"
  refine d_next L3 (by decide) fun r4 H4 a4 b4 L4 k4 => ?_
  walk_at "rd"
  refine r_turns (by omega) (by omega) (fun i σ H' => ∃ o y e x1 x2 x3, σ = [some (.ref S.a), some (.ref o), y, e, x1, x2, x3] ∧ o ≠ S.a ∧ Row8 K S H H' o (21 * 2 ^ i)) ⟨o, y, e, none, none, none, rfl, no, L4, k3.trans k4, zs, k4 _ _ no g1, g2, by omega⟩ ?_ ?_
  · rintro i σ H5 hi ⟨o, y, e, x1, x2, x3, rfl, no, L5, k5, zs, g1, g2, g3⟩
    have hi2 : i = 0 ∨ i = 1 := by omega
    have p2 : 2 ^ (i + 1) = 2 * 2 ^ i := by rw [Nat.pow_succ, Nat.mul_comm]
    have p3 : 2 ^ i ≤ 2 := by rcases hi2 with e | e <;> rw [e] <;> decide
    walk_at "rd"
    refine ⟨o, _, rfl, .inl (SqL.of g1), ?_⟩
    rw [List.length_map]
    walk_at "rd"
    refine d_next L5 (by omega) fun r6 H6 a6 b6 L6 k6 => ?_
    walk_at "rd"
    refine d_next L6 (by decide) fun r7 H7 a7 b7 L7 k7 => ?_
    walk_at "rd"
    refine ⟨by show 15 ≤ sizeLine; decide, fun p np => ?_⟩
    have hE : upd H7 p (.lst (odds15.map V.int)) p = some (.lst (odds15.map V.int)) := upd_same
    have s8 := same_upd np (.lst (odds15.map V.int))
    have L8 := L7.new np (.lst (odds15.map V.int))
    have pa := L7.ne_free np
    walk_at "rd"
    refine d_next L8 (by decide) fun r9 H9 a9 b9 L9 k9 => ?_
    obtain ⟨v, hv, ev⟩ := atI_ints (ns := odds15) (k := r9) a9 b9
    refine r_ixL (SqL.of (k9 _ _ pa hE)) ev ?_
    have hv := odds15_oct v hv
    have g9 := k9 _ _ no (s8 _ _ (k7 _ _ no (k6 _ _ no g1)))
    have k59 := (((k5.trans k6).trans k7).trans (Keep.of s8)).trans k9
    have sub : ∀ {ws : List Int}, (∀ x ∈ ws, x ∈ zs) → ∀ x ∈ ws, Oct x := fun h x hx => g2 x (h x hx)
    have one : ∀ x ∈ [v], Oct x := fun x hx => by
      have e : x = v := by simpa using hx
      rw [e]
      exact hv
    have fin : ∀ (t : Addr) (ys : List Int) (H10 : Hp), H10 t = none → (∀ x ∈ ys, Oct x) → ys.length ≤ 2 * zs.length + 1 → Same H9 H10 → t ≠ S.a ∧ Row8 K S H (upd H10 t (.lst (ys.map V.int))) t (21 * 2 ^ (i + 1)) := fun t ys H10 nt h1 h2 h3 => by
      have L10 := L9.same h3
      refine ⟨L10.ne_free nt, L10.new nt _, (k59.trans (Keep.of h3)).trans (Keep.of (same_upd nt _)), ys, upd_same, h1, ?_⟩
      rw [p2]
      omega
    walk_at "rd"
    refine r_ite (fun q => ?_) (fun q => ?_)
    · walk_at "rd"
      refine d_cut none (some r6) rfl g9 (fun R hR => r_nopart hR) (fun R hR => ⟨_, rfl, _, rfl, hR⟩) fun q1 w1 n1 d1 l1 => ?_
      have t1 := same_upd n1 (.lst (w1.map V.int))
      refine d_cut (some (r6 + 1)) none rfl (t1 _ _ g9) (fun R hR => (by refine r_part ?_; walk_at "rd"; exact ⟨_, rfl, hR⟩)) (fun R hR => r_nopart hR) fun q2 w2 n2 d2 l2 => ?_
      have t2 := same_upd n2 (.lst (w2.map V.int))
      refine ⟨q1, q2, _, _, rfl, rfl, t2 _ _ upd_same, upd_same, Nat.le_of_lt (small1000 (by rw [List.length_map, List.length_map]; omega)), fun t nt => ?_⟩
      rw [cat_ints]
      obtain ⟨f1, f2⟩ := fin t (w1 ++ w2) _ nt (oct_app (sub d1) (sub d2)) (by rw [List.length_append]; omega) (t1.trans t2)
      walk_at "rd"
      exact ⟨t, _, _, _, _, _, rfl, f1, f2⟩
    walk_at "rd"
    refine r_ite (fun q => ?_) (fun q => ?_)
    · walk_at "rd"
      refine d_cut none (some r6) rfl g9 (fun R hR => r_nopart hR) (fun R hR => ⟨_, rfl, _, rfl, hR⟩) fun q1 w1 n1 d1 l1 => ?_
      have t1 := same_upd n1 (.lst (w1.map V.int))
      walk_at "rd"
      refine ⟨by show 1 ≤ sizeLine; decide, fun q3 n3 => ?_⟩
      have t3 := same_upd n3 (.lst [.int v])
      refine ⟨q1, q3, w1.map V.int, [v].map V.int, rfl, rfl, t3 _ _ upd_same, upd_same, Nat.le_of_lt (small1000 (by rw [List.length_map, List.length_map]; show w1.length + 1 ≤ 1000; omega)), fun q4 n4 => ?_⟩
      rw [cat_ints]
      have t4 := same_upd n4 (.lst ((w1 ++ [v]).map V.int))
      have t14 := (t1.trans t3).trans t4
      refine d_cut (some r6) none rfl (t14 _ _ g9) (fun R hR => ⟨_, rfl, _, rfl, hR⟩) (fun R hR => r_nopart hR) fun q2 w2 n2 d2 l2 => ?_
      have t2 := same_upd n2 (.lst (w2.map V.int))
      refine ⟨q4, q2, _, _, rfl, rfl, t2 _ _ upd_same, upd_same, Nat.le_of_lt (small1000 (by rw [List.length_map, List.length_map, List.length_append]; show w1.length + 1 + w2.length ≤ 1000; omega)), fun t nt => ?_⟩
      rw [cat_ints]
      obtain ⟨f1, f2⟩ := fin t (w1 ++ [v] ++ w2) _ nt (oct_app (oct_app (sub d1) one) (sub d2)) (by rw [List.length_append, List.length_append]; show w1.length + 1 + w2.length ≤ _; omega) (t14.trans t2)
      walk_at "rd"
      exact ⟨t, _, _, _, _, _, rfl, f1, f2⟩
    walk_at "rd"
    refine r_ite (fun q => ?_) (fun q => ?_)
    · walk_at "rd"
      refine d_cut none (some r6) rfl g9 (fun R hR => r_nopart hR) (fun R hR => ⟨_, rfl, _, rfl, hR⟩) fun q1 w1 n1 d1 l1 => ?_
      have t1 := same_upd n1 (.lst (w1.map V.int))
      walk_at "rd"
      refine ⟨by show 1 ≤ sizeLine; decide, fun q3 n3 => ?_⟩
      have t3 := same_upd n3 (.lst [.int v])
      refine ⟨q1, q3, w1.map V.int, [v].map V.int, rfl, rfl, t3 _ _ upd_same, upd_same, Nat.le_of_lt (small1000 (by rw [List.length_map, List.length_map]; show w1.length + 1 ≤ 1000; omega)), fun q4 n4 => ?_⟩
      rw [cat_ints]
      have t4 := same_upd n4 (.lst ((w1 ++ [v]).map V.int))
      have t14 := (t1.trans t3).trans t4
      refine d_cut (some (r6 + 1)) none rfl (t14 _ _ g9) (fun R hR => (by refine r_part ?_; walk_at "rd"; exact ⟨_, rfl, hR⟩)) (fun R hR => r_nopart hR) fun q2 w2 n2 d2 l2 => ?_
      have t2 := same_upd n2 (.lst (w2.map V.int))
      refine ⟨q4, q2, _, _, rfl, rfl, t2 _ _ upd_same, upd_same, Nat.le_of_lt (small1000 (by rw [List.length_map, List.length_map, List.length_append]; show w1.length + 1 + w2.length ≤ 1000; omega)), fun t nt => ?_⟩
      rw [cat_ints]
      obtain ⟨f1, f2⟩ := fin t (w1 ++ [v] ++ w2) _ nt (oct_app (oct_app (sub d1) one) (sub d2)) (by rw [List.length_append, List.length_append]; show w1.length + 1 + w2.length ≤ _; omega) (t14.trans t2)
      walk_at "rd"
      exact ⟨t, _, _, _, _, _, rfl, f1, f2⟩
    · walk_at "rd"
      refine d_cut none (some r6) rfl g9 (fun R hR => r_nopart hR) (fun R hR => ⟨_, rfl, _, rfl, hR⟩) fun q1 w1 n1 d1 l1 => ?_
      obtain ⟨f1, f2⟩ := fin q1 w1 _ n1 (sub d1) (by omega) (Same.refl _)
      walk_at "rd"
      exact ⟨q1, _, _, _, _, _, rfl, f1, f2⟩
  · rintro σ H5 ⟨o, y, e, x1, x2, x3, rfl, no, L5, k5, zs, g1, g2, g3⟩
    have p3 : 2 ^ r4.toNat ≤ 2 ^ 2 := Nat.pow_le_pow_right (by decide) (by omega)
    walk_at "rd"
    exact h o zs H5 g2 (by omega) g1 L5 k5
end

abbrev s_law : Stmt := (top 14)
theorem sc_law : FnScope ["script", "state", "octets", "due", "begun", "k", "left", "told", "machine", "octet", "before", "follow", "point", "odd"] ["script"] (defScope s_law) := ⟨rfl, rfl, rfl, by decide +kernel, rfl, by decide +kernel, by decide +kernel⟩
theorem bg_oct_len {bg : List Int} {s : U8} (h : Bg bg s) : bg.length ≤ 3 := by
  rcases h with ⟨rfl, _⟩ | ⟨z, i, r, rfl, _⟩ | ⟨z, zs, rfl, hb, hn, hz, hwo, hms, hp, _⟩
  · decide
  · exact (by decide : 1 ≤ 3)
  · have hc : cnt8 z ≤ 4 := by
      unfold cnt8
      split <;> split <;> split <;> omega
    rw [List.length_cons]
    omega
theorem bg_nil {bg : List Int} {s : U8} (h : Bg bg s) : bg = [] ↔ s.ms = 0 := by
  cases bg with
  | nil =>
    rcases h with ⟨_, h⟩ | ⟨z, i, r, h, _⟩ | ⟨z, zs, h, _⟩
    · exact ⟨fun _ => h, fun _ => rfl⟩
    · cases h
    · cases h
  | cons z zs =>
    obtain ⟨_, _, h, _⟩ := bg_facts h
    exact ⟨fun e => (by cases e), fun e => absurd h (by omega)⟩
theorem bg_ms {bg : List Int} {s : U8} (h : Bg bg s) : 0 ≤ s.ms := by
  cases bg with
  | nil => exact Int.le_of_eq ((bg_nil h).mp rfl).symm
  | cons z zs =>
    obtain ⟨_, _, h, _⟩ := bg_facts h
    exact Int.le_of_lt h
theorem fail_lt {zs : List Int} {i d : Nat} {u s : U8} {z : Int} (h1 : u8run u80 (zs.take d) = some s) (h2 : u8run u80 (zs.take i) = some u) (hz : zs[i]? = some z) (hf : (u8take u z).1 = false) (c : i < d) : False := by
  have e1 : (zs.take d)[i]? = some z := by
    rw [List.getElem?_take, if_pos c]
    exact hz
  have e2 : (zs.take d).take i = zs.take i := by
    rw [List.take_take, Nat.min_eq_left (Nat.le_of_lt c)]
  rw [u8run_split _ i u80 s u z h1 e1 (by rw [e2]; exact h2)] at hf
  cases hf
theorem fail_not {zs : List Int} {d : Nat} {s t : U8} {z : Int} (h1 : u8run u80 (zs.take d) = some s) (hz : zs[d]? = some z) (hf : (u8take s z).1 = false) (h2 : u8run u80 zs = some t) : False := by
  rw [u8run_split _ d u80 t s z h2 hz h1] at hf
  cases hf
theorem fail_eq {zs : List Int} {i d : Nat} {u s : U8} {z y : Int} (h1 : u8run u80 (zs.take d) = some s) (hz1 : zs[d]? = some y) (hf1 : (u8take s y).1 = false) (h2 : u8run u80 (zs.take i) = some u) (hz : zs[i]? = some z) (hf : (u8take u z).1 = false) : i = d := by
  rcases Nat.lt_trichotomy i d with c | c | c
  · exact (fail_lt h1 h2 hz hf c).elim
  · exact c
  · exact (fail_lt h2 h1 hz1 hf1 c).elim
theorem eqv_cons_nil (z : Int) (zs : List Int) : PyData.eqv (.list ((z :: zs).map PyData.int)) (.list []) = false := rfl
theorem LS.but {K : PySem.W.Frag} {S : SC} {H1 H H' : Hp} (L1 : LS K S H1) {m l : Addr} (hm : H1 m = none) (hl : H1 l = none) (L : LS K S H) (b : But m l H H') : LS K S H' := by
  obtain ⟨⟨k, l', f, e⟩, h2, h3, h4, h5⟩ := L1
  obtain ⟨⟨k', l'', f', e'⟩, h2', _, _, h5'⟩ := L
  have n1 : ∀ {b : Addr} {u : HO}, H1 b = some u → b ≠ m := fun h z => by
    rw [z, hm] at h
    cases h
  have n2 : ∀ {b : Addr} {u : HO}, H1 b = some u → b ≠ l := fun h z => by
    rw [z, hl] at h
    cases h
  refine ⟨⟨k', l'', f', b _ _ (n1 e) (n2 e) e'⟩, b _ _ (n1 h2) (n2 h2) h2', h3, h4, ?_⟩
  have go : S.sl ≠ m → S.sl ≠ l → SqL K H' S.sl (S.ns.map V.int) := fun q1 q2 => by
    rcases h5' with (h | ⟨u, h⟩) | h
    · exact .inl (.inl (b _ _ q1 q2 h))
    · exact .inl (.inr ⟨u, b _ _ q1 q2 h⟩)
    · exact .inr h
  rcases h5 with (h | ⟨u, h⟩) | h
  · exact go (n1 h) (n2 h)
  · exact go (n1 h) (n2 h)
  · exact .inr h
theorem But.refl (a l : Addr) (H : Hp) : But a l H H := fun _ _ _ _ z => z
theorem But.trans {a l : Addr} {H H1 H2 : Hp} (x : But a l H H1) (y : But a l H1 H2) : But a l H H2 := fun b u p q z => y b u p q (x b u p q z)
theorem But.same {a l : Addr} {H H1 : Hp} (x : Same H H1) : But a l H H1 := fun b u _ _ z => x b u z
theorem cut_to {zs : List Int} {d : Nat} (h : d ≤ zs.length) : cutV (zs.map V.int) none (some (d : Nat)) = (zs.take d).map V.int := by
  unfold cutV
  rw [HT.sIx_nat, HT.sIx_none, List.length_map, Nat.min_eq_left h, List.drop_zero, Nat.sub_zero, List.map_take]
def odds7 : List Int := [97, 128, 143, 159, 160, 191, 194]
theorem odds7_oct : ∀ c ∈ odds7, Oct c := by
  unfold Oct
  decide
theorem shaped_before (ns : List Int) (b : Bool) : SeqAt.shaped (.tuple [.list (ns.map PyData.int), .bool b]) = true := by
  simp [SeqAt.shaped, PyData.canLay0, PyData.canLayAll0, PyData.depth, PyData.depthAll, PySem.W.ke_canLayAll0, PySem.W.ke_depthAll]
theorem r_lcL {σ : St} {H : Hp} {Q : VK} {K : PySem.W.Frag} {tl : TE} {g : TG} {tt : TT} {te : TE} {vs : List Nat} (h : tl σ H fun x H1 => ∃ a, x = .ref a ∧ (∃ xs, SqL K H1 a xs) ∧ ∀ D, H1 D = none → ∃ W : Nat → Nat → Hp → Prop, (∃ m, W 0 m (upd H1 D (.lst []))) ∧ ∀ i m H, W i m H →
  ((Itl K a).stop i H ∧ Q (.ref D) H) ∨ ((Itl K a).go i H ∧ ∃ Nx : Hp → Prop, (∀ H', Nx H' → ∃ m', m' < m ∧ W (i + 1) m' H') ∧ ∀ x H', (Itl K a).yld i H x H' → g x (wipe σ vs) H' fun σ2 H2 => wipe σ2 vs = wipe σ vs ∧ tt σ2 H2 fun b H3 =>
    if b = true then te σ2 H3 fun y H4 => ∃ acc, H4 D = some (.lst acc) ∧ acc.length < sizeLine ∧ Nx (upd H4 D (.lst (acc ++ [y]))) else Nx H3)) : tLc (iList K tl) g tt te vs σ H Q := h
/-- a for over range(j), what stands behind a break known -/
theorem r_turnsB {σ : St} {H : Hp} {n : St → Hp → Prop} {r : VK} {j : Int} {g : TG} {tb : TS} (h1 : -(2 ^ 62) ≤ j) (h2 : j < 2 ^ 62) (M : St → Hp → Prop) (hM : ∀ σ H, M σ H → n σ H) (Pv : Nat → St → Hp → Prop) (h0 : Pv 0 σ H)
    (hs : (∀ σ H, M σ H → n σ H) → ∀ (i : Nat) σ H, (i : Int) < j → Pv i σ H → g (.int (i : Int)) σ H fun σ2 H2 => tb ⟨Pv (i + 1), r, n, Pv (i + 1)⟩ σ2 H2) (hd : ∀ σ H, Pv j.toNat σ H → M σ H) :
    -(2 ^ 62) ≤ j ∧ j < 2 ^ 62 ∧ ∃ W : Nat → Nat → St → Hp → Prop, (∃ m, W 0 m σ H) ∧ ∀ i m σ H, W i m σ H →
    ((Itr 0 j.toNat).stop i H ∧ n σ H) ∨ ((Itr 0 j.toNat).go i H ∧ ∃ N : St → Hp → Prop, (∀ σ' H', N σ' H' → ∃ m', m' < m ∧ W (i + 1) m' σ' H') ∧ ∀ x H', (Itr 0 j.toNat).yld i H x H' → g x σ H' fun σ2 H2 => tb ⟨N, r, n, N⟩ σ2 H2) :=
  r_turns h1 h2 Pv h0 (hs hM) fun σ H p => hM σ H (hd σ H p)
theorem at_base3 {c : Int} (h : c = 2 ∨ c = 3 ∨ c = 4) : atI [V.int 192, V.int 224, V.int 240] (c - 2) = some (.int (base8 c)) := by rcases h with e | e | e <;> rw [e] <;> rfl
theorem cnt_le (z : Int) : cnt8 z ≤ 4 := by
  unfold cnt8
  split <;> split <;> split <;> omega
def cands4 : List Int := [128, 144, 160, 191]
theorem cands4_oct : ∀ c ∈ cands4, Oct c := by
  unfold Oct
  decide
theorem at_end (a : List Int) (v : Int) : atI ((a ++ [v]).map V.int) ((((a ++ [v]).length : Nat) : Int) - 1) = some (.int v) := by
  rw [show (((a ++ [v]).length : Nat) : Int) - 1 = ((a.length : Nat) : Int) by rw [List.length_append]; show ((a.length + 1 : Nat) : Int) - 1 = _; omega]
  refine atI_nat ?_
  rw [List.getElem?_map, List.getElem?_append_right (Nat.le_refl _), Nat.sub_self]
  rfl
/-- where the first fault is -/
def Due (zs bg : List Int) (i : Nat) (v : V) : Prop :=
  (v = .non ∧ ∃ s, u8run u80 (zs.take i) = some s ∧ Bg bg s) ∨ (∃ (d : Nat) (z : Int) (s : U8), v = .int (d : Nat) ∧ d < i ∧ u8run u80 (zs.take d) = some s ∧ Bg bg s ∧ zs[d]? = some z ∧ (u8take s z).1 = false)
section
variable {P : Program} {w : World} {K : PySem.W.Frag} {mg : Str → Option Value} {base : Heap} {f : Addr} {fd : FuncData}
theorem ok_law (F : FunD K "law" "law" (defArgs s_law) (defBody s_law) (defScope s_law) [] [] (glAd "law" K) fd) (nb : Nm K mg) (k_Utf8 : Mak P w K mg base 1 "Utf8" (C_Utf8 K) (sp_Utf8___init__ K) []) (p_Utf8_is_open : Prp P w K mg base 1 (C_Utf8 K) "is_open" (sp_Utf8_is_open K)) (m_Utf8_take : Met P w K mg base 2 (C_Utf8 K) "take" (sp_Utf8_take K) []) (c_decode : Cal P w K mg base 3 "decode" (sp_decode K) []) (c__law_state : Cal P w K mg base 2 "_law_state" (sp__law_state K) []) (c__law_next : Cal P w K mg base 1 "_law_next" (sp__law_next K) []) (c__law_octets : Cal P w K mg base 2 "_law_octets" (sp__law_octets K) []) (c__law_can_come : Cal P w K mg base 1 "_law_can_come" (sp__law_can_come K) []) : FnOk P w K mg base CX0 4 (glAd "law" K) fd ["script"] (sp_law K) := by
  refine fnD F sc_law len1 (fun cdv A outer s H vs Q E hr h => ⟨_, (pss_cons (ps_set (i := 1) sc_law.nd rfl (Or.inl rfl) (pe_c c__law_state hr (by decide) rfl (pa_cons (pv 0) (pa_cons pe_int pa_nil))))
    (pss_cons (ps_set (i := 2) sc_law.nd rfl (Or.inl rfl) (pe_c c__law_octets hr (by decide) rfl (pa_cons (pv 1) pa_nil)))
    (pss_cons (ps_set (i := 3) sc_law.nd rfl (Or.inl rfl) pe_non)
    (pss_cons (ps_set (i := 4) sc_law.nd rfl (Or.inr rfl) (pe_lst pa_nil))
    (pss_cons (ps_for PassesOwn.never rfl (pi_range1 rfl nb.range (pa_cons (pe_callB call_len_seq (by rfl) nb.len PySem.boot_len (pa_cons (pv 2) pa_nil)) pa_nil)) (pg_name (i := 5) sc_law.nd rfl (Or.inl rfl))
    (pss_one (ps_if (pt_cmpR op_isN (pv 3) pe_non (nomark _))
    (pss_cons (ps_set (i := 6) sc_law.nd rfl (Or.inl rfl) (pe_c c__law_can_come hr (by decide) rfl (pa_cons (pe_op op_cat (pv 4) (pe_lst (pa_cons (pe_ix ix_list (pv 2) (pv 5) (fun _ _ => rfl)) pa_nil))) pa_nil)))
    (pss_one (ps_if (pt_cmpR op_lt (pv 6) pe_int (nomark _))
    (pss_one (ps_set (i := 3) sc_law.nd rfl (Or.inl rfl) (pv 5)))
    (pss_one (ps_if (pt_cmpR op_eq (pv 6) pe_int (nomark _))
    (pss_one (ps_set (i := 4) sc_law.nd rfl (Or.inr rfl) (pe_lst pa_nil)))
    (pss_one (ps_set (i := 4) sc_law.nd rfl (Or.inr rfl) (pe_op op_cat (pv 4) (pe_lst (pa_cons (pe_ix ix_list (pv 2) (pv 5) (fun _ _ => rfl)) pa_nil))))))))))
    pss_nil)))
    (pss_cons (ps_set (i := 7) sc_law.nd rfl (Or.inl rfl) (pe_c c_decode hr (by decide) rfl (pa_cons (pv 2) pa_nil)))
    (pss_cons (ps_if (PW.pt (pw_and (pt_cmpR op_isN (pv 3) pe_non (nomark _)) (pw_and1 (pt_cmpR (op_eqD hr.units) (pv 4) (pe_lst pa_nil) (nomark _)))))
    (pss_one (ps_ret (pe_and (pe_callB call_isi (by rfl) nb.isinstance (by decide +kernel) (pa_cons (pv 7) (pa_cons (pe_bltn (v := .ty "tuple") (u := .type "tuple") (by rfl) nb.tuple (by decide +kernel) rfl) pa_nil))) (pe_and (pe_cmpR op_eq (pe_callB call_len_seq (by rfl) nb.len PySem.boot_len (pa_cons (pv 7) pa_nil)) pe_int (nomark _)) (pe_one (pe_cmpR op_isN (pe_ix ix_tup (pv 7) pe_int (fun _ _ => rfl)) pe_non (nomark _)))))))
    pss_nil)
    (pss_cons (ps_if (pt_cmpR op_isN (pv 3) pe_non (nomark _))
    (pss_one (ps_ret (pe_cmpR (op_eqD hr.units) (pv 7) (pe_tup (pa_cons pe_non (pa_cons (pe_op op_sub (pe_callB call_len_seq (by rfl) nb.len PySem.boot_len (pa_cons (pv 2) pa_nil)) pe_int) pa_nil))) (nomark _))))
    pss_nil)
    (pss_cons (ps_if (pt_cmpR (op_neD hr.units) (pv 7) (pe_tup (pa_cons pe_non (pa_cons (pv 3) pa_nil))) (nomark _))
    (pss_one (ps_ret pe_bl))
    pss_nil)
    (pss_cons (ps_set (i := 8) sc_law.nd rfl (Or.inl rfl) (pe_mk0 k_Utf8 hr (by decide) rfl))
    (pss_cons (ps_for PassesOwn.never rfl (pi_list (pe_slice sl_list (pv 2) po_none (po_some (pv 3)))) (pg_name (i := 9) sc_law.nd rfl (Or.inl rfl))
    (pss_one (ps_if (pt_cmpR op_isnot_bl (pe_mt m_Utf8_take hr (by decide) (pv 8) (pa_cons (pv 9) pa_nil)) pe_bl (nomark _))
    (pss_one (ps_ret pe_bl))
    pss_nil)))
    (pss_cons (ps_set (i := 10) sc_law.nd rfl (Or.inl rfl) (pe_tup (pa_cons (pe_callTy call_list_of (by rfl) nb.list (by decide +kernel) (pa_cons (pe_fld (pv 8) rfl) pa_nil)) (pa_cons (pe_pr p_Utf8_is_open hr (by decide) (pv 8)) pa_nil))))
    (pss_cons (ps_for PassesOwn.never rfl (pi_list (pe_op op_cat (pe_lst (pa_cons (pe_ix ix_list (pv 2) (pv 3) (fun _ _ => rfl)) (pa_cons (pe_ix ix_list (pv 2) (pv 3) (fun _ _ => rfl)) pa_nil))) (pe_lc (own := [("odd", 13)]) (g := gName 13) rfl sc_law.nd (pi_list (pe_lst (pa_cons pe_int (pa_cons pe_int (pa_cons pe_int (pa_cons pe_int (pa_cons pe_int (pa_cons pe_int (pa_cons pe_int pa_nil))))))))) (blkOk_by (N := ["script", "state", "octets", "due", "begun", "k", "left", "told", "machine", "octet", "before", "follow", "point", "odd"]) (sc := defScope s_law) (by decide +kernel)) (fun _ _ _ _ _ => pg_name (i := 13) sc_law.nd rfl (Or.inl rfl)) (fun _ _ _ _ _ => (pts_one (pt_cmpR op_lt (pe_c c__law_can_come hr (by decide) rfl (pa_cons (pe_op op_cat (pv 4) (pe_lst (pa_cons (pv 13) pa_nil))) pa_nil)) pe_int (nomark _)))) (fun _ _ _ _ _ => (pv 13))))) (pg_name (i := 9) sc_law.nd rfl (Or.inl rfl))
    (pss_one (ps_if (PW.pt (pw_or (pt_cmpR op_isnot_bl (pe_mt m_Utf8_take hr (by decide) (pv 8) (pa_cons (pv 9) pa_nil)) pe_bl (nomark _)) (pw_or1 (pt_cmpR (op_neD hr.units) (pe_tup (pa_cons (pe_fld (pv 8) rfl) (pa_cons (pe_pr p_Utf8_is_open hr (by decide) (pv 8)) pa_nil))) (pv 10) (nomark _)))))
    (pss_one (ps_ret pe_bl))
    pss_nil)))
    (pss_cons (ps_if (pt_cmpR (op_eqD hr.units) (pv 4) (pe_lst pa_nil) (nomark _))
    (pss_one (ps_ret (pe_and (pe_cmpR op_is_bl (pe_mt m_Utf8_take hr (by decide) (pv 8) (pa_cons pe_int pa_nil)) pe_bl (nomark _)) (pe_one (pe_cmpR op_eq (pe_ix ix_list (pe_fld (pv 8) rfl) (pe_un un_neg pe_int) (fun _ _ => rfl)) pe_int (nomark _))))))
    pss_nil)
    (pss_cons (ps_for PassesOwn.never rfl (pi_range1 rfl nb.range (pa_cons pe_int pa_nil)) (pg_name (i := 5) sc_law.nd rfl (Or.inl rfl))
    (pss_cons (ps_setLc (i := 11) (own := [("octet", 9)]) (g := gName 9) rfl sc_law.nd rfl rfl (sw_true rfl rfl rfl (by decide +kernel)) (pi_list (pe_lst (pa_cons pe_int (pa_cons pe_int (pa_cons pe_int (pa_cons pe_int pa_nil)))))) (blkOk_by (N := ["script", "state", "octets", "due", "begun", "k", "left", "told", "machine", "octet", "before", "follow", "point", "odd"]) (sc := defScope s_law) (by decide +kernel)) (fun _ _ _ _ _ => pg_name (i := 9) sc_law.nd rfl (Or.inl rfl)) (fun _ _ _ _ _ => (pts_one (pt_cmpR op_ge (pe_c c__law_can_come hr (by decide) rfl (pa_cons (pe_op op_cat (pv 4) (pe_lst (pa_cons (pv 9) pa_nil))) pa_nil)) pe_int (nomark _)))) (fun _ _ _ _ _ => (pv 9)))
    (pss_cons (ps_expr (pe_bm PySem.F.plainAttrs_list PySem.F.slot_list_append PySem.F.type_list_append mt_append (pv 4) (pa_cons (pe_ix ix_list (pv 11) (pe_c c__law_next hr (by decide) rfl (pa_cons (pv 1) (pa_cons (pe_callB call_len_seq (by rfl) nb.len PySem.boot_len (pa_cons (pv 11) pa_nil)) pa_nil))) (fun _ _ => rfl)) pa_nil)))
    (pss_cons (ps_if (pt_cmpR op_isnot_bl (pe_mt m_Utf8_take hr (by decide) (pv 8) (pa_cons (pe_ix ix_list (pv 4) (pe_op op_sub (pe_callB call_len_seq (by rfl) nb.len PySem.boot_len (pa_cons (pv 4) pa_nil)) pe_int) (fun _ _ => rfl)) pa_nil)) pe_bl (nomark _))
    (pss_one (ps_ret pe_bl))
    pss_nil)
    (pss_one (ps_if (pt_cmpR op_eq (pe_c c__law_can_come hr (by decide) rfl (pa_cons (pv 4) pa_nil)) pe_int (nomark _))
    (pss_one ps_break)
    pss_nil))))))
    (pss_cons (ps_set (i := 12) sc_law.nd rfl (Or.inl rfl) (pe_op op_sub (pe_ix ix_list (pv 4) pe_int (fun _ _ => rfl)) (pe_ix ix_list (pe_lst (pa_cons pe_int (pa_cons pe_int (pa_cons pe_int pa_nil)))) (pe_op op_sub (pe_callB call_len_seq (by rfl) nb.len PySem.boot_len (pa_cons (pv 4) pa_nil)) pe_int) (fun _ _ => rfl))))
    (pss_cons (ps_for PassesOwn.never rfl (pi_list (pe_slice sl_list (pv 4) (po_some pe_int) po_none)) (pg_name (i := 9) sc_law.nd rfl (Or.inl rfl))
    (pss_one (ps_set (i := 12) sc_law.nd rfl (Or.inl rfl) (pe_op op_sub (pe_op op_add (pe_op op_mul (pv 12) pe_int) (pv 9)) pe_int))))
    (pss_one (ps_ret (pe_and (pe_cmpR (op_eqD hr.units) (pe_fld (pv 8) rfl) (pe_op op_cat (pe_ix ix_tup (pv 10) pe_int (fun _ _ => rfl)) (pe_lst (pa_cons (pv 12) pa_nil))) (nomark _)) (pe_one (pe_cmpR op_is_bl (pe_pr p_Utf8_is_open hr (by decide) (pv 8)) pe_bl (nomark _))))))))))))))))))))))), ?_⟩)
  obtain ⟨_, rfl, sl, ns, rfl, hs, h⟩ := h
  walk_at "rd"
  refine ⟨_, _, rfl, sl, ns, _, rfl, rfl, hs, fun S H1 _ _ L1 _ _ => ?_⟩
  walk_at "rd"
  refine ⟨_, rfl, S, rfl, L1, fun p zs H2 hz hn hP L2 _ => ?_⟩
  walk_at "rd"
  refine ⟨Nat.zero_le _, fun b0 nb0 => ?_⟩
  have pb0 : p ≠ b0 := ne_of_none hP nb0
  have pS : p ≠ S.a := fun e => by
    obtain ⟨k, l, f, q⟩ := L2.st
    rw [← e, hP] at q
    cases zs with
    | nil => cases q
    | cons x r => cases q
  walk_at "rd"
  refine ⟨p, _, rfl, .inl (SqL.of (same_upd nb0 (.lst []) _ _ hP)), ?_⟩
  rw [List.length_map]
  walk_at "rd"
  refine r_turns (by omega) (by omega) (fun i σ H' => ∃ (v : V) (bg : Addr) (bl : List Int) (kk x : Option V), σ = [some (.ref sl), some (.ref S.a), some (.ref p), some v, some (.ref bg), kk, x, none, none, none, none, none, none, none] ∧ LS K S H' ∧ H' p = some (.lst (zs.map V.int)) ∧ H' bg = some (.lst (bl.map V.int)) ∧ (∃ Hb, LS K S Hb ∧ Hb bg = none ∧ Hb p = some (.lst (zs.map V.int))) ∧ (∀ x ∈ bl, Oct x) ∧ Due zs bl i v)
    ⟨.non, b0, [], none, none, rfl, L2.new nb0 _, same_upd nb0 _ _ _ hP, upd_same, ⟨H2, L2, nb0, hP⟩, fun _ h => absurd h (by simp), .inl ⟨rfl, u80, rfl, .inl ⟨rfl, rfl⟩⟩⟩ ?_ ?_
  · rintro i σ H3 hi ⟨v, bg, bl, kk, x, rfl, L3, hP3, hB3, hb3, ho, hD⟩
    have hi : i < zs.length := by omega
    have hzi : zs[i]? = some zs[i] := List.getElem?_eq_getElem hi
    rcases hD with ⟨rfl, s, hrun, hBg⟩ | ⟨d, z, s, rfl, hd, hrun, hBg, hdz, hf⟩
    · have ho2 : ∀ x ∈ bl ++ [zs[i]], Oct x := oct_app ho fun x hx => by
        have e : x = zs[i] := by simpa using hx
        rw [e]
        exact hz _ (List.getElem_mem hi)
      have hlen := bg_oct_len hBg
      have hst := step8 hBg (hz _ (List.getElem_mem hi)).1 (hz _ (List.getElem_mem hi)).2
      walk_at "rd"
      refine r_itep rfl ?_
      walk_at "rd"
      refine r_ixL (SqL.of hP3) (atI_nat (by rw [List.getElem?_map, hzi]; rfl)) ?_
      walk_at "rd"
      refine ⟨by show 1 ≤ sizeLine; decide, fun q1 n1 => ?_⟩
      have t1 := same_upd n1 (.lst [.int zs[i]])
      refine ⟨bg, q1, _, [zs[i]].map V.int, rfl, rfl, t1 _ _ hB3, upd_same, Nat.le_of_lt (small1000 (by rw [List.length_map, List.length_map]; show bl.length + 1 ≤ 1000; omega)), fun q2 n2 => ?_⟩
      rw [cat_ints]
      have t2 := t1.trans (same_upd n2 (.lst ((bl ++ [zs[i]]).map V.int)))
      walk_at "rd"
      refine ⟨_, rfl, q2, bl ++ [zs[i]], rfl, upd_same, by simp, fun x hx => (ho2 x hx).1, by rw [List.length_append]; show bl.length + 1 < 1000; omega, fun H4 s4 => ?_⟩
      have t4 := t2.trans s4
      have L4 := L3.same t4
      have hP4 := t4 _ _ hP3
      have hB4 := t4 _ _ hB3
      walk_at "rd"
      rcases hst with ⟨f1, f2⟩ | ⟨f1, f2, f3⟩
      · refine r_itep f2 ?_
        walk_at "rd"
        exact ⟨_, bg, bl, _, _, rfl, L4, hP4, hB4, hb3, ho, .inr ⟨i, zs[i], s, rfl, by omega, hrun, hBg, hzi, f1⟩⟩
      · have run2 : u8run u80 (zs.take (i + 1)) = some (u8take s zs[i]).2 := by
          rw [ints_step hzi]
          exact u8run_snoc _ _ _ _ hrun f1
        refine r_iteN (by rw [f2]; rcases f3 with ⟨g, _⟩ | ⟨g, _⟩ <;> omega) ?_
        walk_at "rd"
        rcases f3 with ⟨g, gB⟩ | ⟨g, gB⟩
        · refine r_itep (f2.trans g) ?_
          walk_at "rd"
          refine ⟨Nat.zero_le _, fun q5 n5 => ?_⟩
          have t5 := same_upd n5 (.lst [])
          walk_at "rd"
          exact ⟨_, q5, [], _, _, rfl, L4.new n5 _, t5 _ _ hP4, upd_same, ⟨H4, L4, n5, hP4⟩, fun _ h => absurd h (by simp), .inl ⟨rfl, _, run2, gB⟩⟩
        · refine r_iteN (by rw [f2]; omega) ?_
          walk_at "rd"
          refine r_ixL (SqL.of hP4) (atI_nat (by rw [List.getElem?_map, hzi]; rfl)) ?_
          walk_at "rd"
          refine ⟨by show 1 ≤ sizeLine; decide, fun q5 n5 => ?_⟩
          have t5 := same_upd n5 (.lst [.int zs[i]])
          refine ⟨bg, q5, _, [zs[i]].map V.int, rfl, rfl, t5 _ _ hB4, upd_same, Nat.le_of_lt (small1000 (by rw [List.length_map, List.length_map]; show bl.length + 1 ≤ 1000; omega)), fun q6 n6 => ?_⟩
          rw [cat_ints]
          have t6 := same_upd n6 (.lst ((bl ++ [zs[i]]).map V.int))
          have L5 := L4.new n5 (.lst [.int zs[i]])
          walk_at "rd"
          exact ⟨_, q6, bl ++ [zs[i]], _, _, rfl, L5.new n6 _, t6 _ _ (t5 _ _ hP4), upd_same, ⟨_, L5, n6, t5 _ _ hP4⟩, ho2, .inl ⟨rfl, _, run2, gB⟩⟩
    · walk_at "rd"
      refine r_iteN (by intro e; cases e) ?_
      walk_at "rd"
      exact ⟨_, bg, bl, _, _, rfl, L3, hP3, hB3, hb3, ho, .inr ⟨d, z, s, rfl, by omega, hrun, hBg, hdz, hf⟩⟩
  rintro σ H3 ⟨v, bg, bl, kk, x, rfl, L3, hP3, hB3, ⟨Hb, Lb, nb3, hPb⟩, ho, hD⟩
  rw [Int.toNat_natCast] at hD
  walk_at "rd"
  refine ⟨_, rfl, p, zs, rfl, .inl hP3, Nat.lt_of_lt_of_le hn (by decide), ?_, ?_, ?_⟩
  · intro s q r H4 g1 g2 _ _ g5 g6 s4
    rcases hD with ⟨rfl, s', hrun, hBg⟩ | ⟨d, z, s', rfl, hd, hrun, hBg, hdz, hf⟩
    · rw [List.take_length, g1] at hrun
      cases hrun
      have e0 : bl = [] := (bg_nil hBg).mpr (by have := bg_ms hBg; omega)
      subst e0
      walk_at "rd"
      refine r_itep rfl ?_
      walk_at "rd"
      refine ⟨Nat.zero_le _, fun q5 n5 => ?_⟩
      have t5 := same_upd n5 (.lst [])
      refine r_eqDs (d := .list []) (.lst (SqL.of (t5 _ _ (s4 _ _ hB3))) .nil) (.lst (SqL.of upd_same) .nil) (by decide) ?_
      walk_at "rd"
      refine r_isi (b := true) (.base (.tup (t5 _ _ g6))) (by decide +kernel) ?_
      walk_at "rd"
      refine ⟨_, _, rfl, .inr (SqT.of (t5 _ _ g6)), ?_⟩
      walk_at "rd"
      refine r_itep (by rfl) ?_
      walk_at "rd"
      refine r_ixT (SqT.of (t5 _ _ g6)) rfl ?_
      walk_at "rd"
      rw [decide_eq_true rfl]
      exact h _
    · exact (fail_not hrun hdz hf g1).elim
  · intro s r H4 g1 g2 _ g6 s4
    rcases hD with ⟨rfl, s', hrun, hBg⟩ | ⟨d, z, s', rfl, hd, hrun, hBg, hdz, hf⟩
    · rw [List.take_length, g1] at hrun
      cases hrun
      obtain ⟨z, bl', rfl⟩ : ∃ y ys, bl = y :: ys := match bl, (fun e => absurd ((bg_nil hBg).mp e) (by omega) : bl ≠ []) with | y :: ys, _ => ⟨y, ys, rfl⟩
      walk_at "rd"
      refine r_itep rfl ?_
      walk_at "rd"
      refine ⟨Nat.zero_le _, fun q5 n5 => ?_⟩
      have t5 := same_upd n5 (.lst [])
      refine r_eqD (d := .list ((z :: bl').map PyData.int)) (e := .list []) (.lst (SqL.of (t5 _ _ (s4 _ _ hB3))) (dpa_ints _)) (.lst (SqL.of upd_same) .nil) (shaped_ints _) (by decide) ?_
      rw [eqv_cons_nil]
      walk_at "rd"
      refine r_itep rfl ?_
      walk_at "rd"
      refine ⟨p, _, rfl, .inl (SqL.of (t5 _ _ (s4 _ _ hP3))), ?_⟩
      rw [List.length_map]
      walk_at "rd"
      refine ⟨by show 2 ≤ sizeLine; decide, fun q6 n6 => ?_⟩
      refine r_eqDs (d := .tuple [.none, .int ((zs.length : Int) - 1)]) (.tup (SqT.of (same_upd n6 _ _ _ (t5 _ _ g6))) (.cons .non (.cons (.int _) .nil))) (.tup (SqT.of upd_same) (.cons .non (.cons (.int _) .nil))) rfl ?_
      exact h _
    · exact (fail_not hrun hdz hf g1).elim
  · intro i s z r H4 g1 g2 g3 _ g6 s4
    rcases hD with ⟨rfl, s', hrun, hBg⟩ | ⟨d, y, s', rfl, hd, hrun, hBg, hdz, hf⟩
    · rw [List.take_length] at hrun
      exact (fail_not g1 g2 g3 hrun).elim
    have ed := fail_eq hrun hdz hf g1 g2 g3
    subst ed
    clear g1 g2 g3
    walk_at "rd"
    refine r_iteN (by intro e; cases e) ?_
    walk_at "rd"
    refine r_iteN (by intro e; cases e) ?_
    walk_at "rd"
    refine ⟨by show 2 ≤ sizeLine; decide, fun q5 n5 => ?_⟩
    have t5 := same_upd n5 (.tup [.non, .int (i : Nat)])
    refine r_neDs (d := .tuple [.none, .int (i : Nat)]) (.tup (SqT.of (t5 _ _ g6)) (.cons .non (.cons (.int _) .nil))) (.tup (SqT.of upd_same) (.cons .non (.cons (.int _) .nil))) rfl ?_
    have s5 := s4.trans t5
    generalize upd H4 q5 (.tup [.non, .int (i : Nat)]) = H5 at s5 ⊢
    clear g6 t5 n5 s4
    have L5 := L3.same s5
    have hP5 := s5 _ _ hP3
    have hB5 := s5 _ _ hB3
    clear s5 L3 hP3 hB3
    walk_at "rd"
    refine d_u8 fun m l H6 hm hl hU s6 => ?_
    have pm : p ≠ m := ne_of_none hP5 hm
    have pl : p ≠ l := ne_of_none hP5 hl
    have bm : bg ≠ m := ne_of_none hB5 hm
    have bl_ : bg ≠ l := ne_of_none hB5 hl
    have L6 := L5.same s6
    have hP6 := s6 _ _ hP5
    have hB6 := s6 _ _ hB5
    have hdl : i < zs.length := (List.getElem?_eq_some_iff.mp hdz).1
    walk_at "rd"
    refine r_itL (r_sl ⟨_, rfl, r_nopart ⟨_, rfl, _, rfl, r_slL (SqL.of hP6) fun q7 n7 => ?_⟩⟩)
    rw [cut_to (Nat.le_of_lt hdl)]
    have t7 := same_upd n7 (.lst ((zs.take i).map V.int))
    have hQ7 : upd H6 q7 (.lst ((zs.take i).map V.int)) q7 = some (.lst ((zs.take i).map V.int)) := upd_same
    have hU7 := u8_new (o := .lst ((zs.take i).map V.int)) hU n7
    have q7m : q7 ≠ m := fun e => by
      obtain ⟨dx, z1, _⟩ := hU
      rw [← e, n7] at z1
      cases z1
    have q7l : q7 ≠ l := fun e => by
      obtain ⟨dx, _, z1⟩ := hU
      rw [← e, n7] at z1
      cases z1
    have L7 := L6.same t7
    have hP7 := t7 _ _ hP6
    have hB7 := t7 _ _ hB6
    generalize upd H6 q7 (.lst ((zs.take i).map V.int)) = H7 at hQ7 hU7 L7 hP7 hB7 ⊢
    refine ⟨q7, rfl, ⟨_, SqL.of hQ7⟩, r_eachL (xs := (zs.take i).map V.int) (fun k σ H' => ∃ (y : Option V) (t : U8), σ = [some (.ref sl), some (.ref S.a), some (.ref p), some (.int (i : Nat)), some (.ref bg), kk, x, some (.ref r), some (.ref m), y, none, none, none, none] ∧ U8At K H' m l t ∧ u8run u80 ((zs.take i).take k) = some t ∧ t.ps.length ≤ k ∧ But m l H7 H') ⟨_, u80, rfl, hU7, rfl, Nat.le_refl _, But.refl _ _ _⟩ ?_ ?_ ?_⟩
    · rintro k σ H' ⟨_, _, _, _, _, _, g⟩
      exact SqL.of (g _ _ q7m q7l hQ7)
    · rintro k x' σ H' hx ⟨y', t, rfl, u1, u2, u3, u4⟩
      obtain ⟨c, hk, rfl, e⟩ := ints_get hx
      have hkl := (List.getElem?_eq_some_iff.mp hk).1
      rw [List.length_take] at hkl
      have ht := u8run_split _ k u80 s' t c hrun hk u2
      obtain ⟨dx, z1, z2⟩ := id u1
      have e3 := u8take_len t c
      walk_at "rd"
      refine r_mget z1 no_Utf8_take ?_
      walk_at "rd"
      refine ⟨_, _, rfl, m, l, t, c, rfl, rfl, u1, Nat.lt_of_lt_of_le (show t.ps.length < 100 by omega) (by decide), fun H8 hU8 b8 => ?_⟩
      rw [ht]
      walk_at "rd"
      refine ⟨_, true, rfl, rfl, ?_⟩
      rw [show (!decide (true = true)) = false from rfl]
      walk_at "rd"
      exact ⟨_, _, rfl, hU8, by rw [e]; exact u8run_snoc _ _ _ _ u2 ht, by omega, u4.trans b8⟩
    rintro σ H8 ⟨y', t, rfl, u1, u2, u3, u4⟩
    rw [List.length_map, List.take_length, hrun] at u2
    have et : t = s' := by
      cases u2
      rfl
    subst et
    clear u2
    have hps : t.ps.length < 100 := by
      rw [List.length_map, List.length_take] at u3
      omega
    have L8 := LS.but L5 hm hl L7 u4
    have hP8 := u4 _ _ pm pl hP7
    have hB8 := u4 _ _ bm bl_ hB7
    clear u4 hP7 hB7 L7 hQ7 hU7 hP6 hB6 L6
    obtain ⟨dx, hA8, hL8⟩ := id u1
    walk_at "rd"
    refine r_fget hA8 nb.cl_Utf8 nb.na_Utf8_points lk_Utf8_points ?_
    walk_at "rd"
    refine ⟨l, _, rfl, .inl (SqL.of hL8), fun pl9 n9 => ?_⟩
    have t9 := same_upd n9 (.lst (t.ps.map V.int))
    have u9 := u8_new (o := .lst (t.ps.map V.int)) u1 n9
    have pl9m : pl9 ≠ m := fun e => by
      rw [← e, n9] at hA8
      cases hA8
    have pl9l : pl9 ≠ l := fun e => by
      rw [← e, n9] at hL8
      cases hL8
    walk_at "rd"
    refine r_pget (t9 _ _ hA8) ?_
    refine ⟨_, rfl, m, l, t, rfl, u9, ?_⟩
    walk_at "rd"
    refine ⟨by show 2 ≤ sizeLine; decide, fun tb n10 => ?_⟩
    have t10 := same_upd n10 (.tup [.ref pl9, .bl (decide (t.ms > 0))])
    have u10 := u8_new (o := .tup [.ref pl9, .bl (decide (t.ms > 0))]) u9 n10
    have hT10 : upd (upd H8 pl9 (.lst (t.ps.map V.int))) tb (.tup [.ref pl9, .bl (decide (t.ms > 0))]) tb = some (.tup [.ref pl9, .bl (decide (t.ms > 0))]) := upd_same
    have hpl10 := t10 _ _ (upd_same (H := H8) (a := pl9) (o := .lst (t.ps.map V.int)))
    have tbm : tb ≠ m := fun e => by
      have z := t9 _ _ hA8
      rw [← e, n10] at z
      cases z
    have tbl : tb ≠ l := fun e => by
      have z := t9 _ _ hL8
      rw [← e, n10] at z
      cases z
    have s810 := t9.trans t10
    have L10 := L8.same s810
    have hP10 := s810 _ _ hP8
    have hB10 := s810 _ _ hB8
    generalize upd (upd H8 pl9 (.lst (t.ps.map V.int))) tb (.tup [.ref pl9, .bl (decide (t.ms > 0))]) = H10 at u10 hT10 hpl10 L10 hP10 hB10 ⊢
    have pl9S : pl9 ≠ S.a := L8.ne_free n9
    have bgpl : bg ≠ pl9 := ne_of_none hB8 n9
    have bgtb : bg ≠ tb := ne_of_none (t9 _ _ hB8) n10
    have tbS : tb ≠ S.a := (L8.same t9).ne_free n10
    have mS : m ≠ S.a := L5.ne_free hm
    have lS : l ≠ S.a := L5.ne_free hl
    have bgS : bg ≠ S.a := Lb.ne_free nb3
    clear t9 u9 n9 t10 n10 s810 L8 hP8 hB8 hA8 hL8 u1
    walk_at "rd"
    refine r_itL ?_
    walk_at "rd"
    refine r_ixL (SqL.of hP10) (atI_nat (by rw [List.getElem?_map, hdz]; rfl)) ?_
    walk_at "rd"
    refine r_ixL (SqL.of hP10) (atI_nat (by rw [List.getElem?_map, hdz]; rfl)) ?_
    walk_at "rd"
    refine ⟨by show 2 ≤ sizeLine; decide, fun q11 n11 => ?_⟩
    have t11 := same_upd n11 (.lst [.int y, .int y])
    refine r_lcL ?_
    walk_at "rd"
    refine ⟨by show 7 ≤ sizeLine; decide, fun q12 n12 => ?_⟩
    have t12 := same_upd n12 (.lst (odds7.map V.int))
    have hE12 : upd (upd H10 q11 (.lst [.int y, .int y])) q12 (.lst (odds7.map V.int)) q12 = some (.lst (odds7.map V.int)) := upd_same
    have h11 := t12 _ _ (upd_same (H := H10) (a := q11) (o := .lst [.int y, .int y]))
    have s12 := t11.trans t12
    generalize hg12 : upd (upd H10 q11 (.lst [.int y, .int y])) q12 (.lst (odds7.map V.int)) = H12 at hE12 h11 s12
    have hB12 := s12 _ _ hB10
    refine ⟨q12, rfl, ⟨_, SqL.of (hg12 ▸ hE12)⟩, fun D nD => ?_⟩
    have nD : H12 D = none := hg12 ▸ nD
    have hblen := bg_oct_len hBg
    refine lc_list (xs := odds7.map V.int) (fun k H' => ∃ acc : List Int, H' D = some (.lst (acc.map V.int)) ∧ (∀ x ∈ acc, (u8take t x).1 = false) ∧ acc.length ≤ k ∧ ∀ b u, b ≠ D → H12 b = some u → H' b = some u)
      ⟨[], upd_same, fun _ h => absurd h (by simp), Nat.le_refl _, fun b u q z => by rw [upd_ne q]; first | exact z | exact hg12 ▸ z⟩ ?_ ?_ ?_
    · rintro k H' _ ⟨acc, e1, e2, e3, e4⟩
      exact SqL.of (e4 _ _ (ne_of_none hE12 nD) hE12)
    · rintro k x' H' hx ⟨acc, e1, e2, e3, e4⟩
      obtain ⟨c, hk, rfl, e⟩ := ints_get hx
      have hc := odds7_oct c (List.mem_of_getElem? hk)
      have hkl : k < 7 := (List.getElem?_eq_some_iff.mp hk).1
      walk_at "rd"
      refine ⟨rfl, ?_⟩
      walk_at "rd"
      refine ⟨by show 1 ≤ sizeLine; decide, fun q13 n13 => ?_⟩
      have t13 := same_upd n13 (.lst [.int c])
      have hBx := e4 _ _ (ne_of_none hB12 nD) hB12
      refine ⟨bg, q13, _, [c].map V.int, rfl, rfl, t13 _ _ hBx, upd_same, Nat.le_of_lt (small1000 (by rw [List.length_map, List.length_map]; show bl.length + 1 ≤ 1000; omega)), fun q14 n14 => ?_⟩
      rw [cat_ints]
      have t14 := t13.trans (same_upd n14 (.lst ((bl ++ [c]).map V.int)))
      have hobc : ∀ x ∈ bl ++ [c], Oct x := oct_app ho fun x hx => by
        have e : x = c := by simpa using hx
        rw [e]
        exact hc
      walk_at "rd"
      refine ⟨_, rfl, q14, bl ++ [c], rfl, upd_same, by simp, fun x hx => (hobc x hx).1, by rw [List.length_append]; show bl.length + 1 < 1000; omega, fun H15 s15 => ?_⟩
      have t15 := t14.trans s15
      have hst := can8_append (step8 hBg hc.1 hc.2)
      walk_at "rd"
      refine r_ite (fun g => ?_) (fun g => ?_)
      · walk_at "rd"
        refine ⟨_, t15 _ _ e1, small1000 (by rw [List.length_map]; omega), acc ++ [c], ?_, ?_, by rw [List.length_append]; show acc.length + 1 ≤ k + 1; omega, fun b u q z => ?_⟩
        · rw [upd_same, map_snoc]
        · intro x hx
          rcases List.mem_append.mp hx with q | q
          · exact e2 x q
          · have e : x = c := by simpa using q
            rw [e]
            exact hst.mpr g
        · rw [upd_ne q]
          exact t15 _ _ (e4 b u q z)
      · exact ⟨acc, t15 _ _ e1, e2, by omega, fun b u q z => t15 _ _ (e4 b u q z)⟩
    · rintro H13 ⟨acc, e1, e2, e3, e4⟩
      have e3 : acc.length ≤ 7 := e3
      have k13 : ∀ b u, H10 b = some u → H13 b = some u := fun b u z => by
        have z := s12 _ _ z
        exact e4 b u (ne_of_none z nD) z
      have u13 : U8At K H13 m l t := by
        obtain ⟨dx, z1, z2⟩ := u10
        exact ⟨dx, k13 _ _ z1, k13 _ _ z2⟩
      have L13 : LS K S H13 := L10.same k13
      have hT13 := k13 _ _ hT10
      have hpl13 := k13 _ _ hpl10
      have hP13 := k13 _ _ hP10
      have hB13 := k13 _ _ hB10
      walk_at "rd"
      refine ⟨q11, D, [y, y].map V.int, acc.map V.int, rfl, rfl, e4 _ _ (ne_of_none h11 nD) h11, e1, Nat.le_of_lt (small1000 (by rw [List.length_map, List.length_map]; show 2 + acc.length ≤ 1000; omega)), fun q20 n20 => ?_⟩
      rw [cat_ints]
      have hall : ∀ c ∈ [y, y] ++ acc, (u8take t c).1 = false := fun c hc => by
        rcases List.mem_append.mp hc with q | q
        · have e : c = y := by simpa using q
          rw [e]
          exact hf
        · exact e2 c q
      have t20 := same_upd n20 (.lst (([y, y] ++ acc).map V.int))
      have hQ20 : upd H13 q20 (.lst (([y, y] ++ acc).map V.int)) q20 = some (.lst (([y, y] ++ acc).map V.int)) := upd_same
      have u20 := u8_new (o := .lst (([y, y] ++ acc).map V.int)) u13 n20
      have q20m : q20 ≠ m := fun e => by
        obtain ⟨dx, z1, _⟩ := u13
        rw [← e, n20] at z1
        cases z1
      have q20l : q20 ≠ l := fun e => by
        obtain ⟨dx, _, z1⟩ := u13
        rw [← e, n20] at z1
        cases z1
      have L20 := L13.same t20
      have hT20 := t20 _ _ hT13
      have hpl20 := t20 _ _ hpl13
      have hB20 := t20 _ _ hB13
      generalize upd H13 q20 (.lst (([y, y] ++ acc).map V.int)) = H20 at hQ20 u20 L20 hT20 hpl20 hB20 ⊢
      refine ⟨q20, rfl, ⟨_, SqL.of hQ20⟩, r_eachL (xs := ([y, y] ++ acc).map V.int) (fun k σ H' => ∃ (y' : Option V), σ = [some (.ref sl), some (.ref S.a), some (.ref p), some (.int (i : Nat)), some (.ref bg), kk, x, some (.ref r), some (.ref m), y', some (.ref tb), none, none, none] ∧ U8At K H' m l t ∧ But m l H20 H') ⟨_, rfl, u20, But.refl _ _ _⟩ ?_ ?_ ?_⟩
      · rintro k σ H' ⟨_, _, _, g⟩
        exact SqL.of (g _ _ q20m q20l hQ20)
      · rintro k x' σ H' hx ⟨y', rfl, v1, v2⟩
        obtain ⟨c, hk, rfl, e⟩ := ints_get hx
        have hfc := hall c (List.mem_of_getElem? hk)
        obtain ⟨dx, z1, z2⟩ := id v1
        walk_at "rd"
        refine r_mget z1 no_Utf8_take ?_
        walk_at "rd"
        refine ⟨_, _, rfl, m, l, t, c, rfl, rfl, v1, Nat.lt_of_lt_of_le hps (by decide), fun H21 hU21 b21 => ?_⟩
        rw [take_false_same hfc] at hU21
        rw [hfc]
        walk_at "rd"
        refine ⟨_, false, rfl, rfl, ?_⟩
        rw [show (!decide (false = false)) = false from rfl]
        have v3 := v2.trans b21
        obtain ⟨dx', w1, w2⟩ := id hU21
        walk_at "rd"
        refine r_fget w1 nb.cl_Utf8 nb.na_Utf8_points lk_Utf8_points ?_
        walk_at "rd"
        refine r_pget w1 ?_
        refine ⟨_, rfl, m, l, t, rfl, hU21, ?_⟩
        walk_at "rd"
        refine ⟨by show 2 ≤ sizeLine; decide, fun q22 n22 => ?_⟩
        have t22 := same_upd n22 (.tup [.ref l, .bl (decide (t.ms > 0))])
        walk_at "rd"
        refine r_neDs (d := .tuple [.list (t.ps.map PyData.int), .bool (decide (t.ms > 0))]) (.tup (SqT.of upd_same) (.cons (.lst (SqL.of (t22 _ _ w2)) (dpa_ints _)) (.cons (.bl _) .nil))) (.tup (SqT.of (t22 _ _ (v3 _ _ tbm tbl hT20))) (.cons (.lst (SqL.of (t22 _ _ (v3 _ _ pl9m pl9l hpl20))) (dpa_ints _)) (.cons (.bl _) .nil))) (shaped_before _ _) ?_
        walk_at "rd"
        exact ⟨_, rfl, u8_new hU21 n22, v3.trans (But.same t22)⟩
      rintro σ H21 ⟨y', rfl, v1, v2⟩
      have L21 := LS.but L5 hm hl L20 v2
      have hT21 := v2 _ _ tbm tbl hT20
      have hpl21 := v2 _ _ pl9m pl9l hpl20
      have hB21 := v2 _ _ bm bl_ hB20
      walk_at "rd"
      refine ⟨Nat.zero_le _, fun q30 n30 => ?_⟩
      have t30 := same_upd n30 (.lst [])
      have v30 := u8_new (o := .lst []) v1 n30
      have L30 := L21.new n30 (.lst [])
      have hT30 := t30 _ _ hT21
      have hpl30 := t30 _ _ hpl21
      have hB30 := t30 _ _ hB21
      have hE30 : upd H21 q30 (.lst []) q30 = some (.lst []) := upd_same
      generalize upd H21 q30 (.lst []) = H30 at v30 L30 hT30 hpl30 hB30 hE30 ⊢
      by_cases hnil : bl = []
      · subst hnil
        refine r_eqDs (d := .list []) (.lst (SqL.of hB30) .nil) (.lst (SqL.of hE30) .nil) (by decide) ?_
        have h0 := (bg_nil hBg).mp rfl
        have e97 := take_low (b := 97) h0 (by decide)
        obtain ⟨dx, z1, z2⟩ := id v30
        walk_at "rd"
        refine r_mget z1 no_Utf8_take ?_
        walk_at "rd"
        refine ⟨_, _, rfl, m, l, t, 97, rfl, rfl, v30, Nat.lt_of_lt_of_le hps (by decide), fun H31 hU31 b31 => ?_⟩
        rw [e97] at hU31 ⊢
        obtain ⟨dx', w1, w2⟩ := id hU31
        walk_at "rd"
        refine ⟨_, true, rfl, rfl, ?_⟩
        rw [show decide (true = true) = true from rfl]
        walk_at "rd"
        refine r_fget w1 nb.cl_Utf8 nb.na_Utf8_points lk_Utf8_points ?_
        walk_at "rd"
        have w2 : H31 l = some (.lst (t.ps.map V.int ++ [.int 97])) := by rw [w2, ← map_snoc]
        refine r_ixL (SqL.of w2) (atI_last _ _) ?_
        walk_at "rd"
        exact h _
      obtain ⟨z0, bl', rfl⟩ : ∃ y ys, bl = y :: ys := match bl, hnil with | y :: ys, _ => ⟨y, ys, rfl⟩
      refine r_eqD (d := .list ((z0 :: bl').map PyData.int)) (e := .list []) (.lst (SqL.of hB30) (dpa_ints _)) (.lst (SqL.of hE30) .nil) (shaped_ints _) (by decide) ?_
      rw [eqv_cons_nil]
      walk_at "rd"
      refine r_turnsB (by decide) (by decide) (fun σ H' => ∃ (kk f9 f11 : Option V) (zs3 : List Int) (t3 : U8), σ = [some (.ref sl), some (.ref S.a), some (.ref p), some (.int (i : Nat)), some (.ref bg), kk, x, some (.ref r), some (.ref m), f9, some (.ref tb), f11, none, none] ∧ U8At K H' m l t3 ∧ H' bg = some (.lst ((z0 :: zs3).map V.int)) ∧ H' tb = some (.tup [.ref pl9, .bl (decide (t.ms > 0))]) ∧ H' pl9 = some (.lst (t.ps.map V.int)) ∧
        t3.ms = 0 ∧ t3.ps = t.ps ++ [bits8 (z0 - base8 (cnt8 z0)) zs3] ∧ cnt8 z0 = (zs3.length : Nat) + 1 ∧ zs3 ≠ []) ?post
        (fun k σ H' => ∃ (kk f9 f11 : Option V) (zs2 : List Int) (t2 : U8), σ = [some (.ref sl), some (.ref S.a), some (.ref p), some (.int (i : Nat)), some (.ref bg), kk, x, some (.ref r), some (.ref m), f9, some (.ref tb), f11, none, none] ∧ U8At K H' m l t2 ∧ LS K S H' ∧ H' bg = some (.lst ((z0 :: zs2).map V.int)) ∧ H' tb = some (.tup [.ref pl9, .bl (decide (t.ms > 0))]) ∧ H' pl9 = some (.lst (t.ps.map V.int)) ∧
          (∀ x ∈ z0 :: zs2, Oct x) ∧ Bg (z0 :: zs2) t2 ∧ t2.ps = t.ps ∧ t2.ms + (k : Nat) ≤ 3) ⟨_, _, _, bl', t, rfl, v30, L30, hB30, hT30, hpl30, ho, hBg, rfl, by have := (bg_facts hBg).2.2.2.1; omega⟩ ?step ?done
      case done =>
        rintro σ H' ⟨kk, f9, f11, zs2, t2, rfl, a1, a2, a3, a4, a5, a6, a7, a8, a9⟩
        have := (bg_facts a7).2.2.1
        have a9 : t2.ms + 3 ≤ 3 := a9
        omega
      case post =>
        rintro σ H' ⟨kk, f9, f11, zs3, t3, rfl, a1, a2, a3, a4, a5, a6, a7, a8⟩
        walk_at "rd"
        refine r_ixL (SqL.of a2) at0 ?_
        walk_at "rd"
        refine ⟨by show 3 ≤ sizeLine; decide, fun q40 n40 => ?_⟩
        have t40 := same_upd n40 (.lst [.int 192, .int 224, .int 240])
        have hE40 : upd H' q40 (.lst [.int 192, .int 224, .int 240]) q40 = some (.lst [.int 192, .int 224, .int 240]) := upd_same
        have a1 := u8_new (o := .lst [.int 192, .int 224, .int 240]) a1 n40
        have a2 := t40 _ _ a2
        have a3 := t40 _ _ a3
        have a4 := t40 _ _ a4
        generalize upd H' q40 (.lst [.int 192, .int 224, .int 240]) = H40 at hE40 a1 a2 a3 a4 ⊢
        walk_at "rd"
        refine ⟨bg, _, rfl, .inl (SqL.of a2), ?_⟩
        rw [List.length_map]
        walk_at "rd"
        have hz3 : 0 < zs3.length := List.length_pos_iff.mpr a8
        have hcl := cnt_le z0
        rw [show (((z0 :: zs3).length : Nat) : Int) - 2 = cnt8 z0 - 2 by rw [a7]; rfl]
        refine r_ixL (SqL.of hE40) (at_base3 (by omega)) ?_
        walk_at "rd"
        refine r_itL (r_sl ⟨_, rfl, ⟨1, rfl, r_nopart (r_slL (SqL.of a2) fun q41 n41 => ?_)⟩⟩)
        have hQ41 : upd H40 q41 (.lst (cutV ((z0 :: zs3).map V.int) (some 1) none)) q41 = some (.lst (zs3.map V.int)) := by
          rw [upd_same]
          exact congrArg (fun l => some (HO.lst l)) cut_tl
        have t41 := same_upd n41 (.lst (cutV ((z0 :: zs3).map V.int) (some 1) none))
        have a1 := u8_new (o := .lst (cutV ((z0 :: zs3).map V.int) (some 1) none)) a1 n41
        have a3 := t41 _ _ a3
        have a4 := t41 _ _ a4
        generalize upd H40 q41 (.lst (cutV ((z0 :: zs3).map V.int) (some 1) none)) = H41 at hQ41 a1 a3 a4 ⊢
        refine ⟨q41, rfl, ⟨_, SqL.of hQ41⟩, r_eachL (xs := zs3.map V.int) (fun k σ H' => H41 = H' ∧ ∃ (y' : Option V), σ = [some (.ref sl), some (.ref S.a), some (.ref p), some (.int (i : Nat)), some (.ref bg), kk, x, some (.ref r), some (.ref m), y', some (.ref tb), f11, some (.int (bits8 (z0 - base8 (cnt8 z0)) (zs3.take k))), none]) ⟨rfl, _, rfl⟩ ?_ ?_ ?_⟩
        · rintro k σ _ ⟨rfl, _⟩
          exact SqL.of hQ41
        · rintro k x' σ _ hx ⟨rfl, y', rfl⟩
          obtain ⟨c, hk, rfl, e⟩ := ints_get hx
          walk_at "rd"
          refine ⟨rfl, some (.int c), ?_⟩
          rw [e, bits8_snoc]
          rfl
        rintro σ _ ⟨rfl, y', rfl⟩
        rw [List.length_map, List.take_length]
        obtain ⟨dx, w1, w2⟩ := id a1
        walk_at "rd"
        refine r_fget w1 nb.cl_Utf8 nb.na_Utf8_points lk_Utf8_points ?_
        walk_at "rd"
        refine r_ixT (SqT.of a3) rfl ?_
        walk_at "rd"
        refine ⟨by show 1 ≤ sizeLine; decide, fun q42 n42 => ?_⟩
        have t42 := same_upd n42 (.lst [.int (bits8 (z0 - base8 (cnt8 z0)) zs3)])
        refine ⟨pl9, q42, t.ps.map V.int, [bits8 (z0 - base8 (cnt8 z0)) zs3].map V.int, rfl, rfl, t42 _ _ a4, upd_same, Nat.le_of_lt (small1000 (by rw [List.length_map, List.length_map]; show t.ps.length + 1 ≤ 1000; omega)), fun q43 n43 => ?_⟩
        rw [cat_ints]
        have t43 := t42.trans (same_upd n43 (.lst ((t.ps ++ [bits8 (z0 - base8 (cnt8 z0)) zs3]).map V.int)))
        rw [a6] at w2
        refine r_eqDs (.lst (SqL.of (t43 _ _ w2)) (dpa_ints _)) (.lst (SqL.of upd_same) (dpa_ints _)) (shaped_ints _) ?_
        walk_at "rd"
        refine r_pget (t43 _ _ w1) ?_
        refine ⟨_, rfl, m, l, t3, rfl, u8_new (u8_new a1 n42) n43, ?_⟩
        walk_at "rd"
        refine ⟨_, false, rfl, rfl, ?_⟩
        rw [a5, show decide (decide ((0 : Int) > 0) = false) = true from rfl]
        exact h _
      case step =>
        rintro hM k σ H' hk ⟨kk, f9, f11, zs2, t2, rfl, a1, a2, a3, a4, a5, a6, a7, a8, a9⟩
        walk_at "rd"
        have hz2 : zs2.length ≤ 2 := by
          have := bg_oct_len a7
          have e : (z0 :: zs2).length = zs2.length + 1 := rfl
          omega
        refine r_lcL ?_
        walk_at "rd"
        refine ⟨by show 4 ≤ sizeLine; decide, fun q50 n50 => ?_⟩
        have t50 := same_upd n50 (.lst (cands4.map V.int))
        have hE50 : upd H' q50 (.lst (cands4.map V.int)) q50 = some (.lst (cands4.map V.int)) := upd_same
        have b3 := t50 _ _ a3
        generalize hg50 : upd H' q50 (.lst (cands4.map V.int)) = H50 at hE50 b3 t50
        refine ⟨q50, rfl, ⟨_, SqL.of (hg50 ▸ hE50)⟩, fun D nD => ?_⟩
        have nD : H50 D = none := hg50 ▸ nD
        refine lc_list (xs := cands4.map V.int) (fun k H' => ∃ acc : List Int, H' D = some (.lst (acc.map V.int)) ∧ acc = (cands4.take k).filter (fun c => decide (0 ≤ can8 (z0 :: zs2 ++ [c]))) ∧ ∀ b u, b ≠ D → H50 b = some u → H' b = some u)
          ⟨[], upd_same, rfl, fun b u q z => by rw [upd_ne q]; first | exact z | exact hg50 ▸ z⟩ ?_ ?_ ?_
        · rintro k' H6' _ ⟨acc, e1, e2, e4⟩
          exact SqL.of (e4 _ _ (ne_of_none hE50 nD) hE50)
        · rintro k' x' H6' hx ⟨acc, e1, e2, e4⟩
          obtain ⟨c, hk, rfl, e⟩ := ints_get hx
          have hc := cands4_oct c (List.mem_of_getElem? hk)
          walk_at "rd"
          refine ⟨rfl, ?_⟩
          walk_at "rd"
          refine ⟨by show 1 ≤ sizeLine; decide, fun q13 n13 => ?_⟩
          have t13 := same_upd n13 (.lst [.int c])
          have hBx := e4 _ _ (ne_of_none b3 nD) b3
          refine ⟨bg, q13, _, [c].map V.int, rfl, rfl, t13 _ _ hBx, upd_same, Nat.le_of_lt (small1000 (by rw [List.length_map, List.length_map]; show zs2.length + 1 + 1 ≤ 1000; omega)), fun q14 n14 => ?_⟩
          rw [cat_ints]
          have t14 := t13.trans (same_upd n14 (.lst ((z0 :: zs2 ++ [c]).map V.int)))
          have hobc : ∀ x ∈ z0 :: zs2 ++ [c], Oct x := oct_app a6 fun x hx => by
            have e : x = c := by simpa using hx
            rw [e]
            exact hc
          walk_at "rd"
          refine ⟨_, rfl, q14, z0 :: zs2 ++ [c], rfl, upd_same, by simp, fun x hx => (hobc x hx).1, by rw [List.length_append]; show zs2.length + 1 + 1 < 1000; omega, fun H15 s15 => ?_⟩
          have t15 := t14.trans s15
          have eacc : (cands4.take (k' + 1)).filter (fun c => decide (0 ≤ can8 (z0 :: zs2 ++ [c]))) = acc ++ if 0 ≤ can8 (z0 :: zs2 ++ [c]) then [c] else [] := by
            rw [e, List.filter_append, ← e2]
            by_cases g : 0 ≤ can8 (z0 :: zs2 ++ [c])
            · rw [if_pos g, List.filter_cons_of_pos (by exact decide_eq_true g)]
              rfl
            · rw [if_neg g, List.filter_cons_of_neg (by simpa using g)]
              rfl
          have hal : acc.length ≤ 4 := by
            rw [e2]
            exact Nat.le_trans (List.length_filter_le _ _) (Nat.le_trans (List.length_take_le' _ _) (by decide))
          walk_at "rd"
          refine r_ite (fun g => ?_) (fun g => ?_)
          · walk_at "rd"
            refine ⟨_, t15 _ _ e1, small1000 (by rw [List.length_map]; omega), acc ++ [c], ?_, ?_, fun b u q z => ?_⟩
            · rw [upd_same, map_snoc]
            · rw [eacc, if_pos g]
            · rw [upd_ne q]
              exact t15 _ _ (e4 b u q z)
          · refine ⟨acc, t15 _ _ e1, ?_, fun b u q z => t15 _ _ (e4 b u q z)⟩
            rw [eacc, if_neg g, List.append_nil]
        · rintro H60 ⟨acc, e1, e2, e4⟩
          have e2 : acc = cands4.filter (fun c => decide (0 ≤ can8 (z0 :: zs2 ++ [c]))) := e2
          have k60 : ∀ b u, H' b = some u → H60 b = some u := fun b u z => by
            have z := t50 _ _ z
            exact e4 b u (ne_of_none z nD) z
          have DS : D ≠ S.a := (a2.same t50).ne_free nD
          have u60 : U8At K H60 m l t2 := by
            obtain ⟨dx, z1, z2⟩ := a1
            exact ⟨dx, k60 _ _ z1, k60 _ _ z2⟩
          have L60 : LS K S H60 := a2.same k60
          have hB60 := k60 _ _ a3
          have hT60 := k60 _ _ a4
          have hpl60 := k60 _ _ a5
          obtain ⟨f1, f2, f3, f4, zz, f5, f6, f7⟩ := bg_facts a7
          have hacc : ∀ c ∈ acc, Oct c ∧ (u8take t2 c).1 = true ∧ can8 (z0 :: zs2 ++ [c]) = (u8take t2 c).2.ms ∧ ((u8take t2 c).2.ms = 0 ∧ Bg [] (u8take t2 c).2 ∨ 0 < (u8take t2 c).2.ms ∧ Bg (z0 :: zs2 ++ [c]) (u8take t2 c).2) := fun c hc => by
            rw [e2] at hc
            obtain ⟨h1, h2⟩ := List.mem_filter.mp hc
            have h2 : 0 ≤ can8 (z0 :: zs2 ++ [c]) := of_decide_eq_true h2
            have ho := cands4_oct c h1
            rcases step8 a7 ho.1 ho.2 with ⟨_, g2⟩ | ⟨g1, g2, g3⟩
            · omega
            · exact ⟨ho, g1, g2, g3⟩
          have hne : 0 < acc.length := by
            refine List.length_pos_iff.mpr fun e => ?_
            have hm : zz ∈ cands4 := by
              unfold cands4
              rcases f5 with q | q | q <;> rw [q] <;> decide
            have ho := cands4_oct zz hm
            have hmem : zz ∈ acc := by
              rw [e2]
              refine List.mem_filter.mpr ⟨hm, decide_eq_true ?_⟩
              rcases step8 a7 ho.1 ho.2 with ⟨g1, _⟩ | ⟨g1, g2, g3⟩
              · rw [take_mid f3 ⟨f6, f7⟩] at g1
                cases g1
              · rw [g2]
                rcases g3 with ⟨q, _⟩ | ⟨q, _⟩ <;> omega
            rw [e] at hmem
            cases hmem
          walk_at "rd"
          refine ⟨tyL hB60, ?_⟩
          walk_at "rd"
          refine ⟨D, _, rfl, .inl (SqL.of e1), ?_⟩
          rw [List.length_map]
          walk_at "rd"
          refine d_next L60 (by omega) fun r61 H61 i61 j61 L61 k61 => ?_
          obtain ⟨v, hv, ev⟩ := atI_ints (ns := acc) (k := r61) i61 j61
          refine r_ixL (SqL.of (k61 _ _ DS e1)) ev ?_
          walk_at "rd"
          obtain ⟨ho, g1, g2, g3⟩ := hacc v hv
          have hB61 := k61 _ _ bgS hB60
          refine r_app hB61 (small1000 (by rw [List.length_map]; show zs2.length + 1 ≤ 1000; omega)) ?_
          rw [map_snoc]
          have L62 := Lb.away nb3 L61 (.lst ((z0 :: zs2 ++ [v]).map V.int))
          have u62 : U8At K (upd H61 bg (.lst ((z0 :: zs2 ++ [v]).map V.int))) m l t2 := by
            obtain ⟨dx, z1, z2⟩ := u60
            exact ⟨dx, (upd_ne (Ne.symm bm)).trans (k61 _ _ mS z1), (upd_ne (Ne.symm bl_)).trans (k61 _ _ lS z2)⟩
          have hB62 : upd H61 bg (.lst ((z0 :: zs2 ++ [v]).map V.int)) bg = some (.lst ((z0 :: zs2 ++ [v]).map V.int)) := upd_same
          have hT62 := (upd_ne (o := .lst ((z0 :: zs2 ++ [v]).map V.int)) (Ne.symm bgtb)).trans (k61 _ _ tbS hT60)
          have hpl62 := (upd_ne (o := .lst ((z0 :: zs2 ++ [v]).map V.int)) (Ne.symm bgpl)).trans (k61 _ _ pl9S hpl60)
          generalize upd H61 bg (.lst ((z0 :: zs2 ++ [v]).map V.int)) = H62 at L62 u62 hB62 hT62 hpl62 ⊢
          obtain ⟨dx, z1, z2⟩ := id u62
          walk_at "rd"
          refine r_mget z1 no_Utf8_take ?_
          walk_at "rd"
          refine ⟨bg, _, rfl, .inl (SqL.of hB62), ?_⟩
          rw [List.length_map]
          walk_at "rd"
          refine r_ixL (SqL.of hB62) (at_end _ _) ?_
          walk_at "rd"
          refine ⟨_, _, rfl, m, l, t2, v, rfl, rfl, u62, by rw [a8]; exact Nat.lt_of_lt_of_le hps (by decide), fun H63 hU63 b63 => ?_⟩
          rw [g1]
          walk_at "rd"
          refine ⟨_, true, rfl, rfl, ?_⟩
          rw [show (!decide (true = true)) = false from rfl]
          have L63 := LS.but L5 hm hl L62 b63
          have hB63 := b63 _ _ bm bl_ hB62
          have hT63 := b63 _ _ tbm tbl hT62
          have hpl63 := b63 _ _ pl9m pl9l hpl62
          have hobc : ∀ x ∈ z0 :: zs2 ++ [v], Oct x := oct_app a6 fun x hx => by
            have e : x = v := by simpa using hx
            rw [e]
            exact ho
          obtain ⟨tm, tp⟩ := take_true_ps f3 g1
          walk_at "rd"
          refine ⟨_, rfl, bg, z0 :: zs2 ++ [v], rfl, hB63, by simp, fun x hx => (hobc x hx).1, by rw [List.length_append]; show zs2.length + 1 + 1 < 1000; omega, fun H64 s64 => ?_⟩
          have u64 : U8At K H64 m l (u8take t2 v).2 := by
            obtain ⟨dx, z1, z2⟩ := hU63
            exact ⟨dx, s64 _ _ z1, s64 _ _ z2⟩
          walk_at "rd"
          rcases g3 with ⟨q1, q2⟩ | ⟨q1, q2⟩
          · refine r_itep (g2.trans q1) ?_
            refine r_brk ?_
            have m1 : t2.ms - 1 = 0 := tm.symm.trans q1
            refine hM _ _ ⟨_, _, _, zs2 ++ [v], (u8take t2 v).2, rfl, u64, s64 _ _ hB63, s64 _ _ hT63, s64 _ _ hpl63, q1, ?_, ?_, by simp⟩
            · rw [tp, if_pos m1, a8, bits8_snoc, ← f1]
            · rw [f2, List.length_append]
              show _ = ((zs2.length + 1 : Nat) : Int) + 1
              omega
          · refine r_iteN (by rw [g2]; omega) ?_
            walk_at "rd"
            refine ⟨_, _, _, zs2 ++ [v], (u8take t2 v).2, rfl, u64, L63.same s64, s64 _ _ hB63, s64 _ _ hT63, s64 _ _ hpl63, hobc, q2, ?_, ?_⟩
            · rw [tp, if_neg (by omega), a8]
            · rw [tm]
              show t2.ms - 1 + ((k + 1 : Nat) : Int) ≤ 3
              omega
end

def d_Utf8___init__ : DefM := { ad := meAd "Utf8" "__init__", nm := "__init__", ql := "Utf8.__init__", pa := defArgs s_Utf8___init__, bo := defBody s_Utf8___init__, sc := defScope s_Utf8___init__ }
def d_Utf8_is_open : DefM := { ad := prAd "Utf8" "is_open", nm := "is_open", ql := "Utf8.is_open", pa := defArgs s_Utf8_is_open, bo := defBody s_Utf8_is_open, sc := defScope s_Utf8_is_open }
def d_Utf8__begin : DefM := { ad := meAd "Utf8" "_begin", nm := "_begin", ql := "Utf8._begin", pa := defArgs s_Utf8__begin, bo := defBody s_Utf8__begin, sc := defScope s_Utf8__begin }
def d_Utf8__go_on : DefM := { ad := meAd "Utf8" "_go_on", nm := "_go_on", ql := "Utf8._go_on", pa := defArgs s_Utf8__go_on, bo := defBody s_Utf8__go_on, sc := defScope s_Utf8__go_on }
def d_Utf8_take : DefM := { ad := meAd "Utf8" "take", nm := "take", ql := "Utf8.take", pa := defArgs s_Utf8_take, bo := defBody s_Utf8_take, sc := defScope s_Utf8_take }
def d_decode : DefM := { ad := glAd "decode", nm := "decode", ql := "decode", pa := defArgs s_decode, bo := defBody s_decode, sc := defScope s_decode }
def d__law_cell : DefM := { ad := glAd "_law_cell", nm := "_law_cell", ql := "_law_cell", pa := defArgs s__law_cell, bo := defBody s__law_cell, sc := defScope s__law_cell }
def d__law_numbers : DefM := { ad := glAd "_law_numbers", nm := "_law_numbers", ql := "_law_numbers", pa := defArgs s__law_numbers, bo := defBody s__law_numbers, sc := defScope s__law_numbers }
def d__law_state : DefM := { ad := glAd "_law_state", nm := "_law_state", ql := "_law_state", pa := defArgs s__law_state, bo := defBody s__law_state, sc := defScope s__law_state }
def d__law_next : DefM := { ad := glAd "_law_next", nm := "_law_next", ql := "_law_next", pa := defArgs s__law_next, bo := defBody s__law_next, sc := defScope s__law_next }
def d__law_written : DefM := { ad := glAd "_law_written", nm := "_law_written", ql := "_law_written", pa := defArgs s__law_written, bo := defBody s__law_written, sc := defScope s__law_written }
def d__law_octets : DefM := { ad := glAd "_law_octets", nm := "_law_octets", ql := "_law_octets", pa := defArgs s__law_octets, bo := defBody s__law_octets, sc := defScope s__law_octets }
def d__law_can_come : DefM := { ad := glAd "_law_can_come", nm := "_law_can_come", ql := "_law_can_come", pa := defArgs s__law_can_come, bo := defBody s__law_can_come, sc := defScope s__law_can_come }
def d_law : DefM := { ad := glAd "law", nm := "law", ql := "law", pa := defArgs s_law, bo := defBody s_law, sc := defScope s_law }
def fn : List DefM := [d_Utf8___init__, d_Utf8_is_open, d_Utf8__begin, d_Utf8__go_on, d_Utf8_take, d_decode, d__law_cell, d__law_numbers, d__law_state, d__law_next, d__law_written, d__law_octets, d__law_can_come, d_law]
def fa : List He.Fa := [.glo "decode", .glo "_law_cell", .glo "_law_numbers", .glo "_law_state", .glo "_law_next", .glo "_law_written", .glo "_law_octets", .glo "_law_can_come", .glo "law", .free "enumerate", .free "len", .free "tuple", .free "abs", .free "range", .free "int", .free "max", .free "min", .free "isinstance", .free "list", .cls "Utf8", .glo "Utf8", .mkr "Utf8", .noat "Utf8" "points", .noat "Utf8" "_missing", .noat "Utf8" "_worth", .noat "Utf8" "_least", .noat "Utf8" "_most", .meth "Utf8" "take", .meth "Utf8" "_begin", .meth "Utf8" "_go_on"]
def ex (K : Frg) : Bool := conB K "FIRSTS" (.tuple [.tuple [.int 194, .int 223, .int 1, .int 128, .int 191], .tuple [.int 224, .int 224, .int 2, .int 160, .int 191], .tuple [.int 225, .int 236, .int 2, .int 128, .int 191], .tuple [.int 237, .int 237, .int 2, .int 128, .int 159], .tuple [.int 238, .int 239, .int 2, .int 128, .int 191], .tuple [.int 240, .int 240, .int 3, .int 144, .int 191], .tuple [.int 241, .int 243, .int 3, .int 128, .int 191], .tuple [.int 244, .int 244, .int 3, .int 128, .int 143]]) && (conB K "MARKS" (.tuple [.int 0, .int 192, .int 224, .int 240]) && (prB K "Utf8" "is_open" && (digB K)))
abbrev RR : PySem.W.OpenRow := PySem.W.OpenLaw.row PySem.Challenge.rw_formsalike_k07_utf8_first_fault
def loose : List PySem.Str := (["MARKS", "FIRSTS", "Utf8", "decode", "_law_cell", "_law_numbers", "_law_state", "_law_next", "_law_big", "_law_written", "_law_octets", "_law_can_come"] : List PySem.Str)
abbrev hk : PySem.W.Hook := hookM 5 fa ex fn
def ob (s : PySem.W.SharedT) : AlM := obsM fa ex fn (frM 5 (HandSHeadRun.getT s))
theorem ob_eq (s : PySem.W.SharedT) : ob s = hk.obs s.abs := obsM_eq (HandSHeadRun.getT_eq s)
theorem run (w : World) : HandSHeadRun.RunEq RR (PySem.W.view RR.prog [14]) hk ob 6000 loose w := by
  intro os
  kernel_rfl
theorem facts {P : Program} {w : World} {K : PySem.W.Frag} {h : Heap} {mg : Str → Option Value} {f : Addr} (X : K.In h) (G : h.Ns mainGlobals mg) (hfa : mg ("law" : Str) = some (.ref f)) (c : SaysM fa ex fn K) :
    ∃ fd : FuncData, (∀ (s : Shared) (v : Value), BindsTo s fd ⟨[v], []⟩ [("script", v)]) ∧ ∀ base : Heap, K.In base → base.Ns mainGlobals mg → FnOk P w K mg base CX0 4 f fd ["script"] (sp_law K) := by
  obtain ⟨fd_Utf8___init__, F_Utf8___init__⟩ := c.def_ 0 (d := d_Utf8___init__) rfl
  obtain ⟨fd_Utf8_is_open, F_Utf8_is_open⟩ := c.def_ 1 (d := d_Utf8_is_open) rfl
  obtain ⟨fd_Utf8__begin, F_Utf8__begin⟩ := c.def_ 2 (d := d_Utf8__begin) rfl
  obtain ⟨fd_Utf8__go_on, F_Utf8__go_on⟩ := c.def_ 3 (d := d_Utf8__go_on) rfl
  obtain ⟨fd_Utf8_take, F_Utf8_take⟩ := c.def_ 4 (d := d_Utf8_take) rfl
  obtain ⟨fd_decode, F_decode⟩ := c.def_ 5 (d := d_decode) rfl
  obtain ⟨fd__law_cell, F__law_cell⟩ := c.def_ 6 (d := d__law_cell) rfl
  obtain ⟨fd__law_numbers, F__law_numbers⟩ := c.def_ 7 (d := d__law_numbers) rfl
  obtain ⟨fd__law_state, F__law_state⟩ := c.def_ 8 (d := d__law_state) rfl
  obtain ⟨fd__law_next, F__law_next⟩ := c.def_ 9 (d := d__law_next) rfl
  obtain ⟨fd__law_written, F__law_written⟩ := c.def_ 10 (d := d__law_written) rfl
  obtain ⟨fd__law_octets, F__law_octets⟩ := c.def_ 11 (d := d__law_octets) rfl
  obtain ⟨fd__law_can_come, F__law_can_come⟩ := c.def_ 12 (d := d__law_can_come) rfl
  obtain ⟨fd_law, F_law⟩ := c.def_ 13 (d := d_law) rfl
  have m_decode := He.glo_ok X G (x := "decode") (c.fact 0 rfl)
  have m__law_cell := He.glo_ok X G (x := "_law_cell") (c.fact 1 rfl)
  have m__law_numbers := He.glo_ok X G (x := "_law_numbers") (c.fact 2 rfl)
  have m__law_state := He.glo_ok X G (x := "_law_state") (c.fact 3 rfl)
  have m__law_next := He.glo_ok X G (x := "_law_next") (c.fact 4 rfl)
  have m__law_written := He.glo_ok X G (x := "_law_written") (c.fact 5 rfl)
  have m__law_octets := He.glo_ok X G (x := "_law_octets") (c.fact 6 rfl)
  have m__law_can_come := He.glo_ok X G (x := "_law_can_come") (c.fact 7 rfl)
  have m_law := He.glo_ok X G (x := "law") (c.fact 8 rfl)
  have xx : ex K = true := c.more
  have x0 := (both xx).1
  replace xx := (both xx).2
  have x1 := (both xx).1
  replace xx := (both xx).2
  have x2 := (both xx).1
  replace xx := (both xx).2
  have x3 := xx
  have nb : Nm K mg := ⟨He.free_ok X G (c.fact 9 rfl),
    He.free_ok X G (c.fact 10 rfl),
    He.free_ok X G (c.fact 11 rfl),
    He.free_ok X G (c.fact 12 rfl),
    He.free_ok X G (c.fact 13 rfl),
    He.free_ok X G (c.fact 14 rfl),
    He.free_ok X G (c.fact 15 rfl),
    He.free_ok X G (c.fact 16 rfl),
    He.free_ok X G (c.fact 17 rfl),
    He.free_ok X G (c.fact 18 rfl),
    conM X G x0,
    conM X G x1,
    He.cls_ok (c.fact 19 rfl),
    He.glo_ok X G (c.fact 20 rfl),
    He.mkr_ok (c.fact 21 rfl),
    He.noat_ok (c.fact 22 rfl),
    He.noat_ok (c.fact 23 rfl),
    He.noat_ok (c.fact 24 rfl),
    He.noat_ok (c.fact 25 rfl),
    He.noat_ok (c.fact 26 rfl),
    prM x2,
    He.meth_ok (c.fact 27 rfl),
    He.meth_ok (c.fact 28 rfl),
    He.meth_ok (c.fact 29 rfl),
    He.eqO_ok x3⟩
  have e := hfa.symm.trans m_law
  cases e
  have b := FunD.bindsA (ps := ["script"]) F_law fun _ _ _ _ _ _ us hl => match us, hl with | [_], _ => rfl
  refine ⟨fd_law, fun s v => b s [v] rfl, fun base _ _ => ?_⟩
  have k_Utf8 := ok_Utf8___init__ (P := P) (w := w) (base := base) F_Utf8___init__ nb
  have p_Utf8_is_open := ok_Utf8_is_open (P := P) (w := w) (base := base) F_Utf8_is_open nb
  have m_Utf8__begin := ok_Utf8__begin (P := P) (w := w) (base := base) F_Utf8__begin nb
  have m_Utf8__go_on := ok_Utf8__go_on (P := P) (w := w) (base := base) F_Utf8__go_on nb
  have m_Utf8_take := ok_Utf8_take (P := P) (w := w) (base := base) F_Utf8_take nb m_Utf8__begin m_Utf8__go_on
  have c_decode := ok_decode (P := P) (w := w) (base := base) F_decode m_decode nb k_Utf8 p_Utf8_is_open m_Utf8_take
  have c__law_cell := ok__law_cell (P := P) (w := w) (base := base) F__law_cell m__law_cell nb
  have c__law_numbers := ok__law_numbers (P := P) (w := w) (base := base) F__law_numbers m__law_numbers nb
  have c__law_state := ok__law_state (P := P) (w := w) (base := base) F__law_state m__law_state nb c__law_cell c__law_numbers
  have c__law_next := ok__law_next (P := P) (w := w) (base := base) F__law_next m__law_next nb
  have c__law_written := ok__law_written (P := P) (w := w) (base := base) F__law_written m__law_written nb
  have c__law_octets := ok__law_octets (P := P) (w := w) (base := base) F__law_octets m__law_octets nb c__law_next c__law_written
  have c__law_can_come := ok__law_can_come (P := P) (w := w) (base := base) F__law_can_come m__law_can_come nb
  exact ok_law F_law nb k_Utf8 p_Utf8_is_open m_Utf8_take c_decode c__law_state c__law_next c__law_octets c__law_can_come
end Fa
open PySem PySem.W PySem.Calls PyProof.Rows
theorem PySem.Challenge.cw_formsalike_k07_utf8_first_fault_holds : PySem.Challenge.rw_formsalike_k07_utf8_first_fault.Holds := by
  w_on; o_law
  refine HandSHeadRun.head_any (r := OpenLaw.row PySem.Challenge.rw_formsalike_k07_utf8_first_fault) (q := view (OpenLaw.row PySem.Challenge.rw_formsalike_k07_utf8_first_fault).prog [14]) (H := Fa.hk) (ob := Fa.ob) (M := 6000) (loose := Fa.loose) (d := HandSHeadRun.topDef (OpenLaw.row PySem.Challenge.rw_formsalike_k07_utf8_first_fault).prog 14) (kwd := []) Fa.ob_eq
    (by kernel_rfl) (fun s => by kernel_rfl) Fa.run (by kernel_rfl) (by kernel_rfl) (by kernel_rfl) (by rfl) (by first | assumption | decide +kernel) (by decide +kernel) ⟨rfl, rfl, rfl, rfl, rfl, by decide +kernel⟩ ?hw ?hc
  case hw => w_witness2
  case hc =>
    refine L2.walk_ofE (l := PySem.Challenge.rw_formsalike_k07_utf8_first_fault) (n := 63) (k := 4) (x := "script") (CX := L2.CX0) rfl (by decide) (by kernel_rfl) ⟨rfl, by decide, by decide⟩ ?F (fun _ _ _ _ z => z)
    intro w mg fa h Y G hmg0
    obtain ⟨K, KX, c⟩ := Y
    have hmg : mg ("law" : PySem.Str) = some (.ref fa) := by
      have e : (HandSHeadRun.topDef (OpenLaw.row PySem.Challenge.rw_formsalike_k07_utf8_first_fault).prog 14).name = ("law" : PySem.Str) := by kernel_rfl
      rw [← e]
      exact hmg0
    obtain ⟨fd, hb, hF⟩ := Fa.facts (P := (PySem.Challenge.rw_formsalike_k07_utf8_first_fault).prog) (w := w) KX G hmg c
    exact ⟨K, fd, Fa.sp_law K, KX, hb, fun H a ns hl _ hS => ⟨_, rfl, a, ns, rfl, hS, fun _ => rfl⟩, hF⟩
