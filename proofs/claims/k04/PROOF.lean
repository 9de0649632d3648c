import PyProof.Rows.All
import Wide.All
import OpenK.AllK
import Wide.FinOn
import KE.KStateDown
import HandS.ForMost
import HandS.Exc
import HandS.More
import HandS.Wide
import HandS.WideBits
import HandS.Conv
import HandS.Codes
import HandS.IsInst
import HandS.Flow
import HandS.Defaults
import HandS.EndBits
import HandS.Head0
import HandS.Head1
import HandS.Head2
import HandS.HeadEnd
import HandS.HeadHook1
import HandS.HeadHook2
import PySem.Challenge.RW_formsalike_k04_floats
set_option Elab.async false
set_option linter.all false
set_option maxRecDepth 100000
set_option maxHeartbeats 4000000
namespace Fa
open PySem PySem.Spec L2 SX
open PyProof.Rows (envOfC)
open C8 (Cal pe_c Mak pe_mk Met pe_mt pe_mt0 pe_gc tCut pss_cut)
def top (i : Nat) : Stmt := PySem.Challenge.pw_formsalike_k04_floats.main.body.getD i (.Pass ⟨0, 0, 0, 0⟩)

/-! ### readings, a step each -/
section
variable {σ : St} {H : Hp} {n b c : St → Hp → Prop} {r : VK} {Q : VK} {K : PySem.W.Frag}
theorem r_seq {t u : TS} (h : t ⟨u ⟨n, r, b, c⟩, r, b, c⟩ σ H) : tSeq t u ⟨n, r, b, c⟩ σ H := h
theorem r_asg {te : TE} {g : TG} (h : te σ H fun x H1 => g x σ H1 n) : tAsg te g ⟨n, r, b, c⟩ σ H := h
theorem r_name {i : Nat} {v : V} {R : St → Hp → Prop} (h : R (σ.set i (some v)) H) : gName i v σ H R := h
theorem r_var {i : Nat} {v : V} (e : σ[i]? = some (some v)) (h : Q v H) : tVar i σ H Q := ⟨v, e, h⟩
theorem r_c {v : V} (h : Q v H) : tC v σ H Q := h
theorem r_op {r : R2} {ta tb : TE} (h : ta σ H fun x H1 => tb σ H1 fun y H2 => r x y H2 Q) : tOp r ta tb σ H Q := h
theorem r_un {r : V → Hp → VK → Prop} {ta : TE} (h : ta σ H fun x H1 => r x H1 Q) : tUn r ta σ H Q := h
theorem r_I0 {g : Int → Int → V} {i j : Int} (h : Q (g i j) H) : rI0 g (.int i) (.int j) H Q := ⟨i, j, rfl, rfl, h⟩
theorem r_I {C : Int → Int → Prop} {g : Int → Int → V} {i j : Int} (c : C i j) (h : Q (g i j) H) : rI C g (.int i) (.int j) H Q := ⟨i, j, rfl, rfl, c, h⟩
theorem r_U {g : Int → V} {i : Int} (h : Q (g i) H) : rU g (.int i) H Q := ⟨i, rfl, h⟩
theorem r_eqI {i j : Int} (h : Q (.bl (decide (i = j))) H) : rEq (.int i) (.int j) H Q := by
  have e : decide (V.int i = V.int j) = decide (i = j) := by simp
  exact ⟨rfl, by rw [e]; exact h⟩
theorem r_neI {i j : Int} (h : Q (.bl (!decide (i = j))) H) : rNe (.int i) (.int j) H Q := by
  have e : decide (V.int i = V.int j) = decide (i = j) := by simp
  exact ⟨rfl, by rw [e]; exact h⟩
theorem r_eqS {i j : Str} (h : Q (.bl (decide (i = j))) H) : rEq (.str i) (.str j) H Q := by
  have e : decide (V.str i = V.str j) = decide (i = j) := by simp
  exact ⟨rfl, by rw [e]; exact h⟩
theorem r_neS {i j : Str} (h : Q (.bl (!decide (i = j))) H) : rNe (.str i) (.str j) H Q := by
  have e : decide (V.str i = V.str j) = decide (i = j) := by simp
  exact ⟨rfl, by rw [e]; exact h⟩
theorem r_nil {R : List V → Hp → Prop} (h : R [] H) : tNil σ H R := h
theorem r_cons {te : TE} {t : TA} {R : List V → Hp → Prop} (h : te σ H fun x H1 => t σ H1 fun xs H2 => R (x :: xs) H2) : tCons te t σ H R := h
theorem r_drop {te : TE} (h : te σ H fun _ H1 => n σ H1) : tDrop te ⟨n, r, b, c⟩ σ H := h
theorem r_ret {te : TE} (h : te σ H r) : tRet te ⟨n, r, b, c⟩ σ H := h
theorem r_retN (h : r .non H) : tRetN ⟨n, r, b, c⟩ σ H := h
theorem r_next (h : n σ H) : tNext ⟨n, r, b, c⟩ σ H := h
theorem r_brk (h : b σ H) : tBreak ⟨n, r, b, c⟩ σ H := h
theorem r_if {e : TT} {t u : TS} (h : e σ H fun k H1 => if k = true then t ⟨n, r, b, c⟩ σ H1 else u ⟨n, r, b, c⟩ σ H1) : tIfS e t u ⟨n, r, b, c⟩ σ H := h
theorem r_ifE {c : TT} {ta tb : TE} (h : c σ H fun b H1 => if b = true then ta σ H1 Q else tb σ H1 Q) : tIf c ta tb σ H Q := h
theorem r_test {te : TE} {R : Bool → Hp → Prop} (h : te σ H fun x H' => ∃ k, x = .bl k ∧ R k H') : tTest te σ H R := h
theorem r_B {te : TE} {R : Bool → Hp → Prop} (h : te σ H fun x H' => ∃ k, x = .bl k ∧ R k H') : tB te σ H R := h
theorem r_bl {b : Bool} {R : Bool → Prop} (h : R b) : ∃ k, V.bl b = .bl k ∧ R k := ⟨b, rfl, h⟩
theorem r_and {t u : TT} {R : Bool → Hp → Prop} (h : t σ H fun c H1 => if c = true then u σ H1 R else R false H1) : tAnd t u σ H R := h
theorem r_or {t u : TT} {R : Bool → Hp → Prop} (h : t σ H fun c H1 => if c = true then R true H1 else u σ H1 R) : tOr t u σ H R := h
theorem r_not {t : TT} {R : Bool → Hp → Prop} (h : t σ H fun c H1 => R (!c) H1) : tNot t σ H R := h
theorem r_andV {ta tb : TE} (h : ta σ H fun x H1 => ∃ c, x = .bl c ∧ if c = true then tb σ H1 Q else Q (.bl false) H1) : tAndV ta tb σ H Q := h
theorem r_orV {ta tb : TE} (h : ta σ H fun x H1 => ∃ c, x = .bl c ∧ if c = true then Q (.bl true) H1 else tb σ H1 Q) : tOrV ta tb σ H Q := h
theorem r_notV {ta : TE} (h : ta σ H fun x H1 => ∃ c, x = .bl c ∧ Q (.bl (!c)) H1) : tNotV ta σ H Q := h
theorem r_chain {r r' : R2} {ta tb tc : TE} (h : ta σ H fun x H1 => tb σ H1 fun y H2 => r x y H2 fun z H3 => ∃ k, z = .bl k ∧ (if k = true then tc σ H3 fun w' H4 => r' y w' H4 Q else Q (.bl false) H3)) : tChain r r' ta tb tc σ H Q := h
theorem r_tup {t : TA} (h : t σ H fun xs H1 => xs.length ≤ sizeLine ∧ ∀ p, H1 p = none → Q (.ref p) (upd H1 p (.tup xs))) : tTup t σ H Q := h
theorem r_lst {t : TA} (h : t σ H fun xs H1 => xs.length ≤ sizeLine ∧ ∀ p, H1 p = none → Q (.ref p) (upd H1 p (.lst xs))) : tLst t σ H Q := h
theorem r_call {sp : Sp} {dvs : List V} {E : XK} {t : TA} (h : t σ H fun vs H1 => sp (vs ++ dvs) H1 Q E) : tCall sp dvs E t σ H Q := h
theorem r_CB {r : List V → Hp → VK → Prop} {t : TA} (h : t σ H fun vs H1 => r vs H1 Q) : tCB r t σ H Q := h
theorem r_ixL {p : Addr} {xs : List V} {i : Int} {v : V} (hs : SqL K H p xs) (e : atI xs i = some v) (h : Q v H) : rIxL K (.ref p) (.int i) H Q := ⟨p, xs, i, v, rfl, rfl, hs, e, h⟩
theorem r_ixT {p : Addr} {xs : List V} {i : Int} {v : V} (hs : SqT K H p xs) (e : atI xs i = some v) (h : Q v H) : rIxT K (.ref p) (.int i) H Q := ⟨p, xs, i, v, rfl, rfl, hs, e, h⟩
theorem r_ite {p : Prop} [Decidable p] {A B : Prop} (h1 : p → A) (h2 : ¬ p → B) : if decide p = true then A else B := by
  by_cases c : p
  · rw [if_pos (decide_eq_true c)]
    exact h1 c
  · rw [if_neg (by simp [c])]
    exact h2 c
theorem r_iten {p : Prop} [Decidable p] {A B : Prop} (h1 : ¬ p → A) (h2 : p → B) : if (!decide p) = true then A else B := by
  by_cases c : p
  · rw [if_neg (by simp [c])]
    exact h2 c
  · rw [if_pos (by simp [c])]
    exact h1 c
theorem r_itep {p : Prop} [Decidable p] {A B : Prop} (c : p) (h : A) : if decide p = true then A else B := by
  rw [if_pos (decide_eq_true c)]
  exact h
theorem r_iteN {p : Prop} [Decidable p] {A B : Prop} (c : ¬ p) (h : B) : if decide p = true then A else B := by
  rw [if_neg (by simp [c])]
  exact h
theorem r_iteF {A B : Prop} (h : B) : if false = true then A else B := by
  rw [if_neg Bool.false_ne_true]
  exact h
theorem r_iteT {A B : Prop} (h : A) : if true = true then A else B := by
  rw [if_pos rfl]
  exact h
theorem r_iteNT {A B : Prop} (h : B) : if (!true) = true then A else B := by
  rw [if_neg (by decide)]
  exact h
theorem r_iteNF {A B : Prop} (h : A) : if (!false) = true then A else B := by
  rw [if_pos (by decide)]
  exact h
theorem r_no {p : Prop} [Decidable p] {A B : Prop} (c : p) (h : B) : if (!decide p) = true then A else B := by
  rw [if_neg (by simp [c])]
  exact h
/-- a for over a written range(m) -/
theorem r_forN {v : Int} {g : TG} {tb : TS} (m : Nat) (e : v = (m : Int)) (hn : m < 2 ^ 62) (Pv : Nat → St → Hp → Prop) (h0 : Pv 0 σ H)
    (hs : ∀ (i : Nat) σ H, i < m → Pv i σ H → g (.int (i : Int)) σ H fun σ2 H2 => tb ⟨Pv (i + 1), r, n, Pv (i + 1)⟩ σ2 H2) (hd : ∀ σ H, Pv m σ H → n σ H) : tFor (iRng1 (tCons (tC (.int v)) tNil)) g tb ⟨n, r, b, c⟩ σ H := by
  subst e
  refine ⟨(m : Int), rfl, by omega, by omega, for_range Pv h0 (fun i σ H hi p => ?_) hd⟩
  rw [Int.zero_add]
  exact hs i σ H (by omega) p
/-- a for over range(v), v in a slot -/
theorem r_forV {v : Int} {k : Nat} {g : TG} {tb : TS} (e : σ[k]? = some (some (.int v))) (h1 : -(2 ^ 62) ≤ v) (h2 : v < 2 ^ 62) (Pv : Nat → St → Hp → Prop) (h0 : Pv 0 σ H)
    (hs : ∀ (i : Nat) σ H, (i : Int) < v → Pv i σ H → g (.int (i : Int)) σ H fun σ2 H2 => tb ⟨Pv (i + 1), r, n, Pv (i + 1)⟩ σ2 H2) (hd : ∀ σ H, Pv v.toNat σ H → n σ H) : tFor (iRng1 (tCons (tVar k) tNil)) g tb ⟨n, r, b, c⟩ σ H := by
  refine ⟨_, e, v, rfl, h1, h2, for_range Pv h0 (fun i σ H hi p => ?_) hd⟩
  rw [Int.zero_add]
  exact hs i σ H (by omega) p
/-- a for over range(e), the turns behind its reading -/
theorem r_for {wi : TI} {g : TG} {tb : TS} (h : wi σ H fun J H1 => ∃ W : Nat → Nat → St → Hp → Prop, (∃ m, W 0 m σ H1) ∧ ∀ i m σ H, W i m σ H →
    (J.stop i H ∧ n σ H) ∨ (J.go i H ∧ ∃ N : St → Hp → Prop, (∀ σ' H', N σ' H' → ∃ m', m' < m ∧ W (i + 1) m' σ' H') ∧ ∀ x H', J.yld i H x H' → g x σ H' fun σ2 H2 => tb ⟨N, r, n, N⟩ σ2 H2)) : tFor wi g tb ⟨n, r, b, c⟩ σ H := h
theorem r_rng1 {ta : TA} {R : It → Hp → Prop} (h : ta σ H fun vs H1 => ∃ j : Int, vs = [.int j] ∧ -(2 ^ 62) ≤ j ∧ j < 2 ^ 62 ∧ R (Itr 0 j.toNat) H1) : iRng1 ta σ H R := h
/-- .. the turns -/
theorem r_turns {j : Int} {g : TG} {tb : TS} (h1 : -(2 ^ 62) ≤ j) (h2 : j < 2 ^ 62) (Pv : Nat → St → Hp → Prop) (h0 : Pv 0 σ H)
    (hs : ∀ (i : Nat) σ H, (i : Int) < j → Pv i σ H → g (.int (i : Int)) σ H fun σ2 H2 => tb ⟨Pv (i + 1), r, n, Pv (i + 1)⟩ σ2 H2) (hd : ∀ σ H, Pv j.toNat σ H → n σ H) :
    -(2 ^ 62) ≤ j ∧ j < 2 ^ 62 ∧ ∃ W : Nat → Nat → St → Hp → Prop, (∃ m, W 0 m σ H) ∧ ∀ i m σ H, W i m σ H →
    ((Itr 0 j.toNat).stop i H ∧ n σ H) ∨ ((Itr 0 j.toNat).go i H ∧ ∃ N : St → Hp → Prop, (∀ σ' H', N σ' H' → ∃ m', m' < m ∧ W (i + 1) m' σ' H') ∧ ∀ x H', (Itr 0 j.toNat).yld i H x H' → g x σ H' fun σ2 H2 => tb ⟨N, r, n, N⟩ σ2 H2) := by
  refine ⟨h1, h2, for_range (D := ⟨n, r, fun _ _ => False, fun _ _ => False⟩) Pv h0 (fun i σ H hi p => ?_) hd⟩
  rw [Int.zero_add]
  exact hs i σ H (by omega) p
theorem r_while {e : TT} {tb : TS} (W : Nat → St → Hp → Prop) (m : Nat) (h0 : W m σ H)
    (hs : ∀ m σ H, W m σ H → e σ H fun k H1 => if k = true then ∃ N : St → Hp → Prop, (∀ σ' H', N σ' H' → ∃ m', m' < m ∧ W m' σ' H') ∧ tb ⟨N, r, n, N⟩ σ H1 else n σ H1) : tWhile e tb ⟨n, r, b, c⟩ σ H := ⟨W, ⟨m, h0⟩, hs⟩
theorem r_turn {tb : TS} {W : Nat → St → Hp → Prop} {m : Nat} (h : tb ⟨fun σ' H' => ∃ m', m' < m ∧ W m' σ' H', r, n, fun σ' H' => ∃ m', m' < m ∧ W m' σ' H'⟩ σ H) :
    ∃ N : St → Hp → Prop, (∀ σ' H', N σ' H' → ∃ m', m' < m ∧ W m' σ' H') ∧ tb ⟨N, r, n, N⟩ σ H := ⟨_, fun _ _ h => h, h⟩
end
/-! ### promises by the number of arguments -/
def sp1 (f : V → Hp → VK → XK → Prop) : Sp := fun vs H Q E => ∃ a, vs = [a] ∧ f a H Q E
def sp2 (f : V → V → Hp → VK → XK → Prop) : Sp := fun vs H Q E => ∃ a b, vs = [a, b] ∧ f a b H Q E
def sp3 (f : V → V → V → Hp → VK → XK → Prop) : Sp := fun vs H Q E => ∃ a b c, vs = [a, b, c] ∧ f a b c H Q E
def sp4 (f : V → V → V → V → Hp → VK → XK → Prop) : Sp := fun vs H Q E => ∃ a b c d, vs = [a, b, c, d] ∧ f a b c d H Q E
def sp5 (f : V → V → V → V → V → Hp → VK → XK → Prop) : Sp := fun vs H Q E => ∃ a b c d e, vs = [a, b, c, d, e] ∧ f a b c d e H Q E
def sp6 (f : V → V → V → V → V → V → Hp → VK → XK → Prop) : Sp := fun vs H Q E => ∃ a b c d e g, vs = [a, b, c, d, e, g] ∧ f a b c d e g H Q E
theorem len5 {f} (vs : List V) (H : Hp) (Q : VK) (E : XK) (h : sp5 f vs H Q E) : vs.length = 5 := by
  obtain ⟨_, _, _, _, _, rfl, _⟩ := h
  rfl
theorem len6 {f} (vs : List V) (H : Hp) (Q : VK) (E : XK) (h : sp6 f vs H Q E) : vs.length = 6 := by
  obtain ⟨_, _, _, _, _, _, rfl, _⟩ := h
  rfl
theorem len1 {f} (vs : List V) (H : Hp) (Q : VK) (E : XK) (h : sp1 f vs H Q E) : vs.length = 1 := by
  obtain ⟨_, rfl, _⟩ := h
  rfl
theorem len2 {f} (vs : List V) (H : Hp) (Q : VK) (E : XK) (h : sp2 f vs H Q E) : vs.length = 2 := by
  obtain ⟨_, _, rfl, _⟩ := h
  rfl
theorem len3 {f} (vs : List V) (H : Hp) (Q : VK) (E : XK) (h : sp3 f vs H Q E) : vs.length = 3 := by
  obtain ⟨_, _, _, rfl, _⟩ := h
  rfl
theorem len4 {f} (vs : List V) (H : Hp) (Q : VK) (E : XK) (h : sp4 f vs H Q E) : vs.length = 4 := by
  obtain ⟨_, _, _, _, rfl, _⟩ := h
  rfl
/-- a def's promise from its body -/
theorem calD {P : Program} {w : World} {K : PySem.W.Frag} {mg : Str → Option Value} {base : Heap} {x qual : Str} {params : Arguments} {body : List Stmt} {scope : Scope} {f : Addr} {fd : FuncData} {N ps : List Str} {k : Nat} {sp : Sp}
    (F : FunD K x qual params body scope [] [] f fd) (m : mg x = some (.ref f)) (S : FnScope N ps scope)
    (hb : ∀ (kV doc pm : Value) (an : Option Addr) (cdv ct : Value) (us : List Value), us.length = ps.length → bindArgs (PySem.W.fnOf x qual params body scope .none kV doc pm an cdv ct) ⟨us, []⟩ = pure (ps.zip us))
    (len : ∀ vs H Q E, sp vs H Q E → vs.length = ps.length)
    (hbody : ∀ (cdv : Value) (A : Around) (outer : List Env) (s : Shared) (H : Hp) (vs : List V) (Q : VK) (E : XK), Room k (A.deeper (envOfC qual scope s.heap.objs.size f cdv)) → sp vs H Q E →
      ∃ t, PSs (cxOf CX0 P w K mg base N qual scope f cdv A outer s H E).nox body t ∧ t { nx := fun _ H' => Q .non H', rt := Q } (start N vs) H) : Cal P w K mg base (k + 1) x sp [] :=
  ⟨f, fd, ps, [], F.ok S len fun cdv A outer s H vs Q E hr h => by
    obtain ⟨t, h1, h2⟩ := hbody cdv A outer s H vs Q E hr h
    exact ⟨t, h1.nox, h2⟩, m, F.kp, F.bindsN hb, .nil⟩
theorem fnD {P : Program} {w : World} {K : PySem.W.Frag} {mg : Str → Option Value} {base : Heap} {x qual : Str} {params : Arguments} {body : List Stmt} {scope : Scope} {f : Addr} {fd : FuncData} {N ps : List Str} {k : Nat} {sp : Sp}
    (F : FunD K x qual params body scope [] [] f fd) (S : FnScope N ps scope) (len : ∀ vs H Q E, sp vs H Q E → vs.length = ps.length)
    (hbody : ∀ (cdv : Value) (A : Around) (outer : List Env) (s : Shared) (H : Hp) (vs : List V) (Q : VK) (E : XK), Room k (A.deeper (envOfC qual scope s.heap.objs.size f cdv)) → sp vs H Q E →
      ∃ t, PSs (cxOf CX0 P w K mg base N qual scope f cdv A outer s H E).nox body t ∧ t { nx := fun _ H' => Q .non H', rt := Q } (start N vs) H) : FnOk P w K mg base CX0 (k + 1) f fd ps sp :=
  F.ok S len fun cdv A outer s H vs Q E hr h => by
    obtain ⟨t, h1, h2⟩ := hbody cdv A outer s H vs Q E hr h
    exact ⟨t, h1.nox, h2⟩
theorem conI {K : PySem.W.Frag} {h : Heap} {mg : Str → Option Value} {x : Str} {i : Int} (X : K.In h) (G : h.Ns mainGlobals mg) (c : (He.Fa.int x i).ok K = true) : ∃ u, mg x = some u ∧ RelV (.int i) u := by
  obtain ⟨t, e⟩ := He.int_ok X G c
  exact ⟨_, e, t, rfl⟩
theorem conS {K : PySem.W.Frag} {h : Heap} {mg : Str → Option Value} {x z : Str} (X : K.In h) (G : h.Ns mainGlobals mg) (c : (He.Fa.str x z).ok K = true) : ∃ u, mg x = some u ∧ RelV (.str z) u := by
  obtain ⟨t, e⟩ := He.str_ok X G c
  exact ⟨_, e, t, rfl⟩

/-! ### more readings -/
section
variable {σ : St} {H : Hp} {n b c : St → Hp → Prop} {r : VK} {Q : VK}
theorem r_cut {t u : TS} (Mid : St → Hp → Prop) (h1 : t ⟨Mid, r, b, c⟩ σ H) (h2 : ∀ σ' H', Mid σ' H' → u ⟨n, r, b, c⟩ σ' H') : tCut t u ⟨n, r, b, c⟩ σ H := ⟨Mid, h1, h2⟩
end
section
variable {σ : St} {H : Hp} {Q : VK} {K : PySem.W.Frag}
theorem r_yes {R : Bool → Hp → Prop} (h : R true H) : tYes σ H R := h
theorem r_isi {x : V} {c d : String} {b : Bool} (t : TyX K H x (.type d)) (e : kitB d c = some b) (h : Q (.bl b) H) : rIsi K [x, .ty c] H Q := ⟨x, .ty c, .type d, .type c, b, rfl, .ty c, t, kit_ty e, h⟩
theorem r_neD {x y : V} {d e : PyData} (h1 : Dp K H x d) (h2 : Dp K H y e) (s1 : SeqAt.shaped d = true) (s2 : SeqAt.shaped e = true) (h : Q (.bl (!PyData.eqv d e)) H) : rNeD K x y H Q := ⟨d, e, h1, h2, s1, s2, h⟩
theorem r_eqD {x y : V} {d e : PyData} (h1 : Dp K H x d) (h2 : Dp K H y e) (s1 : SeqAt.shaped d = true) (s2 : SeqAt.shaped e = true) (h : Q (.bl (PyData.eqv d e)) H) : rEqD K x y H Q := ⟨d, e, h1, h2, s1, s2, h⟩
theorem eqv_same {d : PyData} (s : SeqAt.shaped d = true) : PyData.eqv d d = true := SeqAt.eqv_refl d (Bool.and_eq_true_iff.mp s).1
/-- the same data on both sides -/
theorem r_neDs {x y : V} {d : PyData} (h1 : Dp K H x d) (h2 : Dp K H y d) (s : SeqAt.shaped d = true) (h : Q (.bl false) H) : rNeD K x y H Q := r_neD h1 h2 s s (by rw [eqv_same s]; exact h)
theorem r_eqDs {x y : V} {d : PyData} (h1 : Dp K H x d) (h2 : Dp K H y d) (s : SeqAt.shaped d = true) (h : Q (.bl true) H) : rEqD K x y H Q := r_eqD h1 h2 s s (by rw [eqv_same s]; exact h)
theorem r_rfl {v : V} {B : Prop} (h : B) : v = v ∧ B := ⟨rfl, h⟩
theorem r_gtup {p : Addr} {xs : List V} {n : Nat} {t : TGs} {R : St → Hp → Prop} (hs : SqT K H p xs) (hl : xs.length = n) (h : t xs σ H R) : gTup K n t (.ref p) σ H R := ⟨p, xs, rfl, hs, hl, h⟩
theorem r_gcons {t : TG} {u : TGs} {v : V} {vs : List V} {R : St → Hp → Prop} (h : t v σ H fun σ' H' => u vs σ' H' R) : gCons t u (v :: vs) σ H R := ⟨v, vs, rfl, h⟩
theorem r_gnil {R : St → Hp → Prop} (h : R σ H) : gNil [] σ H R := ⟨rfl, h⟩
theorem r_iteC {p : Prop} [Decidable p] {a b : Int} (h : Q (.int (if p then a else b)) H) : if decide p = true then tC (.int a) σ H Q else tC (.int b) σ H Q := by
  by_cases c : p
  · rw [if_pos (decide_eq_true c)]
    rw [if_pos c] at h
    exact h
  · rw [if_neg (by simp [c])]
    rw [if_neg c] at h
    exact h
theorem r_iteJ {p : Prop} [Decidable p] {ta tb : TE} (v : V) (h1 : p → ∀ R : VK, R v H → ta σ H R) (h2 : ¬ p → ∀ R : VK, R v H → tb σ H R) (h : Q v H) : if decide p = true then ta σ H Q else tb σ H Q := by
  by_cases c : p
  · rw [if_pos (decide_eq_true c)]
    exact h1 c Q h
  · rw [if_neg (by simp [c])]
    exact h2 c Q h
theorem r_max2 {p : Addr} {x y : Int} (hs : H p = some (.lst [.int x, .int y])) (h : Q (.int (max x y)) H) : rMax K [.ref p] H Q := by
  refine ⟨p, [x, y], rfl, SqL.of hs, by show 0 < 2; decide, fun m hm hle => ?_⟩
  have h1 := hle x (by simp)
  have h2 := hle y (by simp)
  have e : m = max x y := by
    rcases List.mem_cons.mp hm with e | e
    · omega
    · rcases List.mem_cons.mp e with e | e
      · omega
      · cases e
  rw [e]
  exact h
theorem r_lam1 {x : V} {R : V → Prop} (h : R x) : ∃ i, [x] = [i] ∧ R i := ⟨x, rfl, h⟩
theorem r_abs {x : Int} {R : Int → Prop} (h : R x) : ∃ i, [V.int x] = [V.int i] ∧ R i := ⟨x, rfl, h⟩
theorem r_int1 {x : Int} {R : Int → Prop} {B : Prop} (h : R x) : (∃ i, [V.int x] = [V.int i] ∧ R i) ∨ B := .inl ⟨x, rfl, h⟩
theorem r_bm {T : String} {r : V → List V → Hp → VK → Prop} {to : TE} {t : TA} (h : to σ H fun x H1 => tyV K T x H1 ∧ t σ H1 fun xs H2 => r x xs H2 Q) : tBM K T r to t σ H Q := h
theorem r_bm0 {T : String} {r : V → List V → Hp → VK → Prop} {to : TE} (h : to σ H fun x H1 => tyV K T x H1 ∧ r x [] H1 Q) : tBM0 K T r to σ H Q := h
theorem tyL {p : Addr} {xs : List V} (h : H p = some (.lst xs)) : tyV K "list" (.ref p) H := Or.inl ⟨rfl, _, SqL.of h⟩
theorem r_app {p : Addr} {xs : List V} {y : V} (h : H p = some (.lst xs)) (hl : xs.length < sizeLine) (q : Q .non (upd H p (.lst (xs ++ [y])))) : rAppend (.ref p) [y] H Q := ⟨p, xs, y, rfl, rfl, h, hl, q⟩
theorem r_sub {to ti : TE} {t : TSet} {v : V} {R : St → Hp → Prop} (h : to σ H fun o H1 => ti σ H1 fun i H2 => t o i v H2 fun H3 => R σ H3) : gSub to ti t v σ H R := h
theorem r_setL {p : Addr} {xs : List V} {k : Int} {j : Nat} {v : V} {R : Hp → Prop} (h : H p = some (.lst xs)) (e : ixN xs.length k = some j) (q : R (upd H p (.lst (xs.set j v)))) : rSetL (.ref p) (.int k) v H R := ⟨p, xs, k, j, rfl, rfl, h, e, q⟩
theorem r_lcR {ta : TA} {g : TG} {tt : TT} {te : TE} {vs : List Nat} (n : Nat) (hn : n < 2 ^ 62)
    (h : ∀ D, H D = none → ∃ W : Nat → Nat → Hp → Prop, (∃ m, W 0 m (upd H D (.lst []))) ∧ ∀ i m H, W i m H →
      ((Itr 0 n).stop i H ∧ Q (.ref D) H) ∨ ((Itr 0 n).go i H ∧ ∃ Nx : Hp → Prop, (∀ H', Nx H' → ∃ m', m' < m ∧ W (i + 1) m' H') ∧ ∀ x H', (Itr 0 n).yld i H x H' → g x (wipe σ vs) H' fun σ2 H2 => wipe σ2 vs = wipe σ vs ∧ tt σ2 H2 fun b H3 =>
        if b = true then te σ2 H3 fun y H4 => ∃ acc, H4 D = some (.lst acc) ∧ acc.length < sizeLine ∧ Nx (upd H4 D (.lst (acc ++ [y]))) else Nx H3))
    (he : ∀ R : List V → Hp → Prop, R [.int (n : Int)] H → ta σ H R) : tLc (iRng1 ta) g tt te vs σ H Q := by
  refine he _ ⟨(n : Int), rfl, by omega, by omega, ?_⟩
  have e : ((n : Int)).toNat = n := by omega
  rw [e]
  exact h
theorem same_upd {H : Hp} {p : Addr} (h : H p = none) (o : HO) : Same H (upd H p o) := fun b u q => by
  rw [upd_ne (ne_of_none q h)]
  exact q
theorem seq_upd {p b : Addr} {xs : List V} {o : HO} (h : SqL K H b xs) (hn : b ≠ p) : SqL K (upd H p o) b xs := by
  rcases h with (h | ⟨u, h⟩) | h
  · exact .inl (.inl ((upd_ne hn).trans h))
  · exact .inl (.inr ⟨u, (upd_ne hn).trans h⟩)
  · exact .inr h
theorem atI_ints {ns : List Int} {k : Int} (h0 : 0 ≤ k) (h1 : k < (ns.length : Int)) : ∃ v, v ∈ ns ∧ atI (ns.map V.int) k = some (.int v) := by
  have hk : k.toNat < ns.length := by omega
  have ek : k = ((k.toNat : Nat) : Int) := by omega
  have q : atI (ns.map V.int) ((k.toNat : Nat) : Int) = some (.int ns[k.toNat]) := atI_nat (by rw [List.getElem?_map, List.getElem?_eq_getElem hk] <;> rfl)
  rw [← ek] at q
  exact ⟨ns[k.toNat], List.getElem_mem hk, q⟩
end

local macro_rules | `(tactic| walk_at "rv") => `(tactic| ((with_reducible apply r_var); (· rfl)))
local macro_rules | `(tactic| walk_at "rd1") => `(tactic| first
  | (with_reducible refine r_seq ?_)
  | (with_reducible refine r_asg ?_)
  | (with_reducible refine r_name ?_)
  | ((with_reducible apply r_var); (· rfl))
  | (with_reducible refine r_c ?_)
  | (with_reducible refine r_op ?_)
  | (with_reducible refine r_I0 ?_)
  | (with_reducible refine r_eqI ?_)
  | (with_reducible refine r_neI ?_)
  | (with_reducible refine r_eqS ?_)
  | (with_reducible refine r_neS ?_)
  | (with_reducible refine r_cons ?_)
  | (with_reducible refine r_nil ?_)
  | (with_reducible refine r_if ?_)
  | (with_reducible refine r_test ?_)
  | (with_reducible refine r_B ?_)
  | (with_reducible refine r_bl ?_)
  | (with_reducible refine r_ret ?_)
  | (with_reducible refine r_drop ?_)
  | (with_reducible refine r_un ?_)
  | (with_reducible refine r_U ?_)
  | (with_reducible refine r_CB ?_)
  | (with_reducible refine r_call ?_)
  | (with_reducible refine r_retN ?_)
  | (with_reducible refine r_next ?_)
  | (with_reducible refine r_brk ?_)
  | (with_reducible refine r_ifE ?_)
  | (with_reducible refine r_and ?_)
  | (with_reducible refine r_or ?_)
  | (with_reducible refine r_not ?_)
  | (with_reducible refine r_andV ?_)
  | (with_reducible refine r_orV ?_)
  | (with_reducible refine r_notV ?_)
  | (with_reducible refine r_chain ?_)
  | (with_reducible refine r_iteF ?_)
  | (with_reducible refine r_iteT ?_)
  | (with_reducible refine r_iteNT ?_)
  | (with_reducible refine r_iteNF ?_)
  | ((with_reducible apply r_I); (· first | decide | exact ⟨by decide, by decide⟩ | exact .inr ⟨by decide, by decide⟩ | exact .inl ⟨by decide, by decide⟩ | exact ⟨by decide, by decide, by decide⟩))
  | (with_reducible refine r_bm ?_)
  | (with_reducible refine r_bm0 ?_)
  | (with_reducible refine r_sub ?_)
  | (with_reducible refine r_yes ?_)
  | (with_reducible refine r_gcons ?_)
  | (with_reducible refine r_gnil ?_)
  | (with_reducible refine r_rfl ?_)
  | (with_reducible refine r_for ?_)
  | (with_reducible refine r_rng1 ?_)
  | (with_reducible refine r_int1 ?_)
  | (with_reducible refine r_abs ?_)
  | (with_reducible refine r_tup ?_)
  | (with_reducible refine r_lst ?_))
local macro_rules | `(tactic| walk_at "rd") => `(tactic| repeat (walk_at "rd1"))

structure Nm (mg : Str → Option Value) : Prop where
  divmod : mg "divmod" = none
  len : mg "len" = none
  abs : mg "abs" = none
  range : mg "range" = none
  int : mg "int" = none
  isinstance : mg "isinstance" = none
  tuple : mg "tuple" = none
  bool : mg "bool" = none
  max : mg "max" = none
  g_PIECE : ∃ u, mg "PIECE" = some u ∧ RelV (.int 10000000000000000000000000000000000000000000000000000000000000000) u
  g_PIECE_DIGITS : ∃ u, mg "PIECE_DIGITS" = some u ∧ RelV (.int 64) u

/-! ### numbers by powers of ten -/
theorem pow_bits {b : Int} (hb : b.natAbs < 16) (c : Nat) : (b ^ c).natAbs < 2 ^ (4 * c + 1) := by
  rw [Int.natAbs_pow]
  have h1 : b.natAbs ^ c ≤ 16 ^ c := Nat.pow_le_pow_left (by omega) c
  have h2 : (16 : Nat) ^ c = 2 ^ (4 * c) := by
    rw [Nat.pow_mul]
  have h3 : (2 : Nat) ^ (4 * c) < 2 ^ (4 * c + 1) := Nat.pow_lt_pow_right (by decide) (by omega)
  omega
theorem bits10 (n : Nat) : (10 : Int) ^ n < 2 ^ (4 * n + 1) := by
  have h := pow_bits (b := 10) (by decide) n
  have e : ((10 : Int) ^ n).natAbs = 10 ^ n := by rw [Int.natAbs_pow]; rfl
  rw [e] at h
  have h2 : ((10 ^ n : Nat) : Int) < ((2 ^ (4 * n + 1) : Nat) : Int) := Int.ofNat_lt.mpr h
  rw [Int.natCast_pow, Int.natCast_pow] at h2
  exact h2
theorem abs10 {x : Int} {n : Nat} (h : x.natAbs < 10 ^ n) : x.natAbs < 2 ^ (4 * n + 1) := by
  have h1 := pow_bits (b := 10) (by decide) n
  have e : ((10 : Int) ^ n).natAbs = 10 ^ n := by rw [Int.natAbs_pow]; rfl
  rw [e] at h1
  omega
theorem abs_mul10 {x y : Int} {a b : Nat} (h1 : x.natAbs < 10 ^ a) (h2 : y.natAbs < 10 ^ b) : (x * y).natAbs < 10 ^ (a + b) := by
  rw [Int.natAbs_mul, Nat.pow_add]
  exact Nat.mul_lt_mul'' h1 h2
theorem natAbs10 (n : Nat) : ((10 : Int) ^ n).natAbs = 10 ^ n := by rw [Int.natAbs_pow]; rfl
theorem pow10_le {a b : Nat} (h : a ≤ b) : (10 : Nat) ^ a ≤ 10 ^ b := Nat.pow_le_pow_right (by decide) h
def sp_law (K : PySem.W.Frag) : Sp := sp1 fun a H Q _ => ∃ (sl : Addr) (ns : List Int), a = .ref sl ∧ SqL K H sl (ns.map V.int) ∧ ∀ H', Q (.bl true) H'

/-! ### normal -/
abbrev s_normal : Stmt := (top 3)
theorem sc_normal : FnScope ["m", "e"] ["m", "e"] (defScope s_normal) := ⟨rfl, rfl, rfl, by decide +kernel, rfl, by decide +kernel, by decide +kernel⟩
/-- the normal form, one zero after another -/
def nrm (m e : Int) : Int × Int := if m = 0 then (0, 0) else if m % 10 = 0 then nrm (m / 10) (e + 1) else (m, e)
termination_by m.natAbs
decreasing_by omega
theorem nrm_zero (e : Int) : nrm 0 e = (0, 0) := by
  unfold nrm
  simp
theorem nrm_stop {m : Int} (e : Int) (h : m % 10 ≠ 0) : nrm m e = (m, e) := by
  unfold nrm
  rw [if_neg (by omega), if_neg h]
theorem nrm_step {m : Int} (e : Int) (h0 : m ≠ 0) (h : m % 10 = 0) : nrm m e = nrm (m / 10) (e + 1) := by
  rw [nrm, if_neg h0, if_pos h]
theorem nrm_mul {a : Int} (h0 : a ≠ 0) (e : Int) : ∀ k : Nat, nrm (a * 10 ^ k) e = nrm a (e + k)
  | 0 => by simp
  | k + 1 => by
    have h1 : a * 10 ^ k ≠ 0 := Int.mul_ne_zero h0 (Int.ne_of_gt (Int.pow_pos (by decide)))
    have e1 : a * 10 ^ (k + 1) = 10 * (a * 10 ^ k) := by
      rw [Int.pow_succ, ← Int.mul_assoc, Int.mul_comm]
    rw [e1, nrm_step e (by omega) (by omega), show 10 * (a * 10 ^ k) / 10 = a * 10 ^ k by omega, nrm_mul h0 (e + 1) k]
    congr 1
    omega
theorem nrm_is {m a : Int} (h : a % 10 ≠ 0) (k : Nat) (e1 : m = a * 10 ^ k) (e : Int) : nrm m e = (a, e + k) := by
  rw [e1, nrm_mul (by omega), nrm_stop _ h]
theorem nrm_spec : ∀ (n : Nat) (m e : Int), m.natAbs ≤ n → m ≠ 0 → ∃ (a : Int) (k : Nat), nrm m e = (a, e + k) ∧ a % 10 ≠ 0 ∧ m = a * 10 ^ k
  | 0, m, _, h, h0 => absurd (Int.natAbs_eq_zero.mp (by omega)) h0
  | n + 1, m, e, h, h0 => by
    by_cases c : m % 10 = 0
    · obtain ⟨a, k, h1, h2, h3⟩ := nrm_spec n (m / 10) (e + 1) (by omega) (by omega)
      refine ⟨a, k + 1, ?_, h2, ?_⟩
      · rw [nrm_step e h0 c, h1]
        congr 1
        omega
      · rw [Int.pow_succ, ← Int.mul_assoc, ← h3]
        omega
    · exact ⟨m, 0, by rw [nrm_stop e c]; simp, c, by simp⟩
theorem nrm_of {m : Int} (e : Int) (h0 : m ≠ 0) : ∃ (a : Int) (k : Nat), nrm m e = (a, e + k) ∧ a % 10 ≠ 0 ∧ m = a * 10 ^ k := nrm_spec _ m e (Nat.le_refl _) h0
theorem nrm_piece {m : Int} (e : Int) (h0 : m ≠ 0) (h : m % 10000000000000000000000000000000000000000000000000000000000000000 = 0) :
    nrm (m / 10000000000000000000000000000000000000000000000000000000000000000) (e + 64) = nrm m e := by
  have e1 : m = (m / 10000000000000000000000000000000000000000000000000000000000000000) * 10 ^ 64 := by
    have e2 : (10 : Int) ^ 64 = 10000000000000000000000000000000000000000000000000000000000000000 := by decide
    rw [e2]
    omega
  have h1 : m / 10000000000000000000000000000000000000000000000000000000000000000 ≠ 0 := by omega
  have e3 := nrm_mul h1 e 64
  rw [← e1] at e3
  exact e3.symm
def sp_normal : Sp := sp2 fun a b H Q _ => ∃ m e, a = .int m ∧ b = .int e ∧ ∀ p x y, nrm m e = (x, y) → H p = none → Q (.ref p) (upd H p (.tup [.int x, .int y]))
section
variable {P : Program} {w : World} {K : PySem.W.Frag} {mg : Str → Option Value} {base : Heap} {f : Addr} {fd : FuncData}
theorem ok_normal (F : FunD K "normal" "normal" (defArgs s_normal) (defBody s_normal) (defScope s_normal) [] [] f fd) (m : mg "normal" = some (.ref f)) (nb : Nm mg) : Cal P w K mg base 1 "normal" sp_normal [] := by
  refine calD F m sc_normal (fun _ _ _ _ _ _ us hl => match us, hl with | [_, _], _ => rfl) len2 (fun cdv A outer s H vs Q E hr h => ⟨_, (pss_cons (ps_if (pt_cmpR op_eq (pv 0) pe_int (nomark _))
    (pss_one (ps_ret (pe_tup (pa_cons pe_int (pa_cons pe_int pa_nil)))))
    pss_nil)
    (pss_cons (ps_while PassesOwn.never (pt_cmpR op_eq (pe_op op_mod (pv 0) (pe_gc rfl nb.g_PIECE)) pe_int (nomark _))
    (pss_cons (ps_set (i := 0) sc_normal.nd rfl (Or.inl rfl) (pe_op op_fdivW (pv 0) (pe_gc rfl nb.g_PIECE)))
    (pss_one (ps_set (i := 1) sc_normal.nd rfl (Or.inl rfl) (pe_op op_add (pv 1) (pe_gc rfl nb.g_PIECE_DIGITS))))))
    (pss_cons (ps_while PassesOwn.never (pt_cmpR op_eq (pe_op op_mod (pv 0) pe_int) pe_int (nomark _))
    (pss_cons (ps_set (i := 0) sc_normal.nd rfl (Or.inl rfl) (pe_op op_fdiv (pv 0) pe_int))
    (pss_one (ps_set (i := 1) sc_normal.nd rfl (Or.inl rfl) (pe_op op_add (pv 1) pe_int)))))
    (pss_one (ps_ret (pe_tup (pa_cons (pv 0) (pa_cons (pv 1) pa_nil)))))))), ?_⟩)
  obtain ⟨_, _, rfl, m, e, rfl, rfl, h⟩ := h
  walk_at "rd"
  refine r_ite (fun c => ?_) (fun c => ?_)
  · walk_at "rd"
    refine ⟨(by show 2 ≤ sizeLine; decide), fun p hp => ?_⟩
    exact h p 0 0 (by rw [c, nrm_zero]) hp
  · walk_at "rd"
    refine r_while (fun n σ H' => H = H' ∧ ∃ m' e', σ = [some (.int m'), some (.int e')] ∧ m' ≠ 0 ∧ nrm m' e' = nrm m e ∧ n = m'.natAbs) _ ⟨rfl, m, e, rfl, c, rfl, rfl⟩ ?_
    rintro n σ _ ⟨rfl, m', e', rfl, h0, h1, rfl⟩
    walk_at "rd"
    refine r_ite (fun c2 => ?_) (fun c2 => ?_)
    · refine r_turn ?_
      walk_at "rd"
      exact ⟨_, by omega, rfl, _, _, rfl, by omega, by rw [nrm_piece e' h0 c2]; exact h1, rfl⟩
    · walk_at "rd"
      refine r_while (fun n σ H' => H = H' ∧ ∃ m' e', σ = [some (.int m'), some (.int e')] ∧ m' ≠ 0 ∧ nrm m' e' = nrm m e ∧ n = m'.natAbs) _ ⟨rfl, m', e', rfl, h0, h1, rfl⟩ ?_
      rintro n σ _ ⟨rfl, m', e', rfl, h0, h1, rfl⟩
      walk_at "rd"
      refine r_ite (fun c3 => ?_) (fun c3 => ?_)
      · refine r_turn ?_
        walk_at "rd"
        exact ⟨_, by omega, rfl, _, _, rfl, by omega, by rw [← nrm_step e' h0 c3]; exact h1, rfl⟩
      · walk_at "rd"
        refine ⟨(by show 2 ≤ sizeLine; decide), fun p hp => ?_⟩
        exact h p m' e' (by rw [← h1, nrm_stop e' c3]) hp
end

/-! ### power -/
abbrev s_power : Stmt := (top 4)
theorem sc_power : FnScope ["base", "many", "worth"] ["base", "many"] (defScope s_power) := ⟨rfl, rfl, rfl, by decide +kernel, rfl, by decide +kernel, by decide +kernel⟩
def sp_power : Sp := sp2 fun a b H Q _ => ∃ (x : Int) (n : Nat), a = .int x ∧ b = .int (n : Int) ∧ x.natAbs < 16 ∧ n ≤ 100000 ∧ Q (.int (x ^ n)) H
section
variable {P : Program} {w : World} {K : PySem.W.Frag} {mg : Str → Option Value} {base : Heap} {f : Addr} {fd : FuncData}
theorem ok_power (F : FunD K "power" "power" (defArgs s_power) (defBody s_power) (defScope s_power) [] [] f fd) (m : mg "power" = some (.ref f)) (nb : Nm mg) : Cal P w K mg base 1 "power" sp_power [] := by
  refine calD F m sc_power (fun _ _ _ _ _ _ us hl => match us, hl with | [_, _], _ => rfl) len2 (fun cdv A outer s H vs Q E hr h => ⟨_, (pss_cons (ps_set (i := 2) sc_power.nd rfl (Or.inl rfl) pe_int)
    (pss_cons (ps_while PassesOwn.never (pt_cmpR op_gt (pv 1) pe_int (nomark _))
    (pss_cons (ps_if (pt_cmpR op_eq (pe_op op_mod (pv 1) pe_int) pe_int (nomark _))
    (pss_one (ps_set (i := 2) sc_power.nd rfl (Or.inl rfl) (pe_op op_mulX (pv 2) (pv 0))))
    pss_nil)
    (pss_cons (ps_set (i := 0) sc_power.nd rfl (Or.inl rfl) (pe_op op_mulX (pv 0) (pv 0)))
    (pss_one (ps_set (i := 1) sc_power.nd rfl (Or.inl rfl) (pe_op op_fdiv (pv 1) pe_int))))))
    (pss_one (ps_ret (pv 2))))), ?_⟩)
  obtain ⟨_, _, rfl, x, n, rfl, rfl, hx, hn, h⟩ := h
  walk_at "rd"
  refine r_while (fun k σ H' => H = H' ∧ ∃ c d : Nat, σ = [some (.int (x ^ c)), some (.int (k : Int)), some (.int (x ^ d))] ∧ d + c * k = n ∧ c ≤ 2 * n + 1) n ⟨rfl, 1, 0, by rw [Int.pow_one, Int.pow_zero] <;> rfl, by omega, by omega⟩ ?_
  rintro k σ _ ⟨rfl, c, d, rfl, h1, h2⟩
  walk_at "rd"
  refine r_ite (fun c2 => ?_) (fun c2 => ?_)
  · have h3 : c ≤ n := by
      have h4 : c * 1 ≤ c * k := Nat.mul_le_mul_left c (by omega)
      omega
    have hb := pow_bits hx c
    have hd := pow_bits hx d
    refine r_turn ?_
    walk_at "rd"
    refine r_ite (fun c3 => ?_) (fun c3 => ?_)
    · walk_at "rd"
      refine r_I (mulx_ok hd hb (by omega)) ?_
      walk_at "rd"
      refine r_I (mulx_ok hb hb (by omega)) ?_
      walk_at "rd"
      have e1 : k = 2 * (k / 2) + 1 := by omega
      refine ⟨k / 2, by omega, rfl, c + c, d + c, ?_, ?_, by omega⟩
      · rw [Int.pow_add, Int.pow_add]
        rfl
      · have e2 : c * k = c * (2 * (k / 2)) + c := by
          conv => lhs; rw [e1]
          rw [Nat.mul_add, Nat.mul_one]
        have e3 : (c + c) * (k / 2) = c * (2 * (k / 2)) := by
          rw [← Nat.two_mul, Nat.mul_comm 2 c, Nat.mul_assoc]
        omega
    · walk_at "rd"
      refine r_I (mulx_ok hb hb (by omega)) ?_
      walk_at "rd"
      have e1 : k = 2 * (k / 2) := by omega
      refine ⟨k / 2, by omega, rfl, c + c, d, ?_, ?_, by omega⟩
      · rw [Int.pow_add]
        rfl
      · have e2 : c * k = c * (2 * (k / 2)) := by
          conv => lhs; rw [e1]
        have e3 : (c + c) * (k / 2) = c * (2 * (k / 2)) := by
          rw [← Nat.two_mul, Nat.mul_comm 2 c, Nat.mul_assoc]
        omega
  · have e : k = 0 := by omega
    subst e
    walk_at "rd"
    have e2 : d = n := by omega
    rw [e2]
    exact h
end

/-! ### from_binary -/
abbrev s_from_binary : Stmt := (top 5)
theorem sc_from_binary : FnScope ["m", "two"] ["m", "two"] (defScope s_from_binary) := ⟨rfl, rfl, rfl, by decide +kernel, rfl, by decide +kernel, by decide +kernel⟩
def fromB (m two : Int) : Int × Int := if 0 ≤ two then nrm (m * 2 ^ two.toNat) 0 else nrm (m * 5 ^ (-two).toNat) two
def sp_from_binary : Sp := sp2 fun a b H Q _ => ∃ m two : Int, a = .int m ∧ b = .int two ∧ m.natAbs < 2 ^ 1000 ∧ -5000 ≤ two ∧ two ≤ 5000 ∧ ∀ p x y, fromB m two = (x, y) → H p = none → Q (.ref p) (upd H p (.tup [.int x, .int y]))
section
variable {P : Program} {w : World} {K : PySem.W.Frag} {mg : Str → Option Value} {base : Heap} {f : Addr} {fd : FuncData}
theorem ok_from_binary (F : FunD K "from_binary" "from_binary" (defArgs s_from_binary) (defBody s_from_binary) (defScope s_from_binary) [] [] f fd) (m : mg "from_binary" = some (.ref f)) (nb : Nm mg) (c_normal : Cal P w K mg base 1 "normal" sp_normal []) (c_power : Cal P w K mg base 1 "power" sp_power []) : Cal P w K mg base 2 "from_binary" sp_from_binary [] := by
  refine calD F m sc_from_binary (fun _ _ _ _ _ _ us hl => match us, hl with | [_, _], _ => rfl) len2 (fun cdv A outer s H vs Q E hr h => ⟨_, (pss_cons (ps_if (pt_cmpR op_ge (pv 1) pe_int (nomark _))
    (pss_one (ps_ret (pe_c c_normal hr (by decide) rfl (pa_cons (pe_op op_mulX (pv 0) (pe_c c_power hr (by decide) rfl (pa_cons pe_int (pa_cons (pv 1) pa_nil)))) (pa_cons pe_int pa_nil)))))
    pss_nil)
    (pss_one (ps_ret (pe_c c_normal hr (by decide) rfl (pa_cons (pe_op op_mulX (pv 0) (pe_c c_power hr (by decide) rfl (pa_cons pe_int (pa_cons (pe_un un_neg (pv 1)) pa_nil)))) (pa_cons (pv 1) pa_nil)))))), ?_⟩)
  obtain ⟨_, _, rfl, m, two, rfl, rfl, hm, h1, h2, h⟩ := h
  walk_at "rd"
  refine r_ite (fun c => ?_) (fun c => ?_)
  · walk_at "rd"
    refine ⟨_, _, rfl, 2, two.toNat, rfl, congrArg V.int (by omega), by decide, by omega, ?_⟩
    refine r_I (mulx_ok hm (pow_bits (by decide) _) (by omega)) ?_
    walk_at "rd"
    refine ⟨_, _, rfl, _, _, rfl, rfl, fun p x y e hp => h p x y ?_ hp⟩
    unfold fromB
    rw [if_pos c]
    exact e
  · walk_at "rd"
    refine ⟨_, _, rfl, 5, (-two).toNat, rfl, congrArg V.int (by omega), by decide, by omega, ?_⟩
    refine r_I (mulx_ok hm (pow_bits (by decide) _) (by omega)) ?_
    walk_at "rd"
    refine ⟨_, _, rfl, _, _, rfl, rfl, fun p x y e hp => h p x y ?_ hp⟩
    unfold fromB
    rw [if_neg c]
    exact e
end
/-! what the pair is worth -/
theorem pow_two_five (t : Nat) : (10 : Int) ^ t = 2 ^ t * 5 ^ t := by rw [← Int.mul_pow] <;> rfl
theorem ten_pos (k : Nat) : (0 : Int) < 10 ^ k := Int.pow_pos (by decide)
structure Worth (m two a e : Int) : Prop where
  zero : m = 0 → a = 0 ∧ e = 0
  odd : m ≠ 0 → a % 10 ≠ 0
  lo : m ≠ 0 → 0 ≤ two → 0 ≤ e
  lo2 : m ≠ 0 → two < 0 → two ≤ e
  eq : m ≠ 0 → m * 2 ^ (max 0 two).toNat * 10 ^ (max 0 (-e)).toNat = a * 2 ^ (max 0 (-two)).toNat * 10 ^ (max 0 e).toNat
theorem worth_of {m two a e : Int} (h : fromB m two = (a, e)) : Worth m two a e := by
  unfold fromB at h
  by_cases c : 0 ≤ two
  · rw [if_pos c] at h
    by_cases hm : m = 0
    · subst hm
      rw [Int.zero_mul, nrm_zero] at h
      cases h
      exact ⟨fun _ => ⟨rfl, rfl⟩, fun n => absurd rfl n, fun n => absurd rfl n, fun n => absurd rfl n, fun n => absurd rfl n⟩
    · have h2 : (0 : Int) < 2 ^ two.toNat := Int.pow_pos (by decide)
      obtain ⟨b, k, e1, e2, e3⟩ := nrm_of 0 (Int.mul_ne_zero hm (Int.ne_of_gt h2))
      rw [e1] at h
      cases h
      refine ⟨fun z => absurd z hm, fun _ => e2, fun _ _ => by omega, fun _ _ => by omega, fun _ => ?_⟩
      rw [show (max 0 two).toNat = two.toNat by omega, show (max 0 (-(0 + (k : Int)))).toNat = 0 by omega, show (max 0 (-two)).toNat = 0 by omega, show (max 0 (0 + (k : Int))).toNat = k by omega, Int.pow_zero, Int.pow_zero, Int.mul_one, Int.mul_one]
      exact e3
  · rw [if_neg c] at h
    by_cases hm : m = 0
    · subst hm
      rw [Int.zero_mul, nrm_zero] at h
      cases h
      exact ⟨fun _ => ⟨rfl, rfl⟩, fun n => absurd rfl n, fun n => absurd rfl n, fun n => absurd rfl n, fun n => absurd rfl n⟩
    · have h2 : (0 : Int) < 5 ^ (-two).toNat := Int.pow_pos (by decide)
      obtain ⟨b, k, e1, e2, e3⟩ := nrm_of two (Int.mul_ne_zero hm (Int.ne_of_gt h2))
      rw [e1] at h
      cases h
      refine ⟨fun z => absurd z hm, fun _ => e2, fun _ _ => by omega, fun _ _ => by omega, fun _ => ?_⟩
      generalize ht : (-two).toNat = t at e3 h2
      rw [show (max 0 two).toNat = 0 by omega, show (max 0 (-two)).toNat = t by omega, Int.pow_zero, Int.mul_one]
      by_cases ck : k ≤ t
      · rw [show (max 0 (-(two + (k : Int)))).toNat = t - k by omega, show (max 0 (two + (k : Int))).toNat = 0 by omega, Int.pow_zero, Int.mul_one]
        apply Int.eq_of_mul_eq_mul_right (Int.ne_of_gt (ten_pos k))
        rw [Int.mul_assoc, ← Int.pow_add, Nat.sub_add_cancel ck, pow_two_five, Int.mul_comm (2 ^ t), ← Int.mul_assoc, e3]
        rw [Int.mul_assoc, Int.mul_comm (10 ^ k), ← Int.mul_assoc]
      · rw [show (max 0 (-(two + (k : Int)))).toNat = 0 by omega, show (max 0 (two + (k : Int))).toNat = k - t by omega, Int.pow_zero, Int.mul_one]
        apply Int.eq_of_mul_eq_mul_right (Int.ne_of_gt h2)
        rw [e3]
        have ek : (10 : Int) ^ k = 2 ^ t * 5 ^ t * 10 ^ (k - t) := by
          rw [← pow_two_five, ← Int.pow_add]
          congr 1
          omega
        rw [ek]
        simp only [Int.mul_assoc]
        congr 2
        rw [Int.mul_comm]
theorem natAbs_two (n : Nat) : ((2 : Int) ^ n).natAbs = 2 ^ n := by rw [Int.natAbs_pow]; rfl
/-- the power of the pair, from above -/
theorem worth_hi {m two a e : Int} (W : Worth m two a e) (hm : m.natAbs < 2 ^ 54) (h2 : two ≤ 1100) (h0 : m ≠ 0) : e ≤ 400 := by
  have he := W.eq h0
  have ha : a ≠ 0 := fun z => W.odd h0 (by rw [z]; rfl)
  have hp : ∀ n : Nat, 0 < (2 : Nat) ^ n := fun n => Nat.pow_pos (by decide)
  by_cases c : 0 ≤ e
  · have q := congrArg Int.natAbs he
    rw [show (max 0 (-e)).toNat = 0 by omega, show (max 0 e).toNat = e.toNat by omega, Int.pow_zero, Int.mul_one] at q
    rw [Int.natAbs_mul, Int.natAbs_mul, Int.natAbs_mul, natAbs_two, natAbs_two, natAbs10] at q
    have q1 : 1 * 1 * 10 ^ e.toNat ≤ a.natAbs * 2 ^ (max 0 (-two)).toNat * 10 ^ e.toNat := Nat.mul_le_mul_right _ (Nat.mul_le_mul (by omega) (hp _))
    have q2 : m.natAbs * 2 ^ (max 0 two).toNat < 2 ^ 54 * 2 ^ 1100 := Nat.lt_of_lt_of_le (Nat.mul_lt_mul_of_pos_right hm (hp _)) (Nat.mul_le_mul_left _ (Nat.pow_le_pow_right (by decide) (by omega)))
    rw [← Nat.pow_add] at q2
    have q3 : (2 : Nat) ^ (3 * e.toNat) ≤ 10 ^ e.toNat := by
      rw [Nat.pow_mul]
      exact Nat.pow_le_pow_left (by decide) _
    have q4 : (2 : Nat) ^ (3 * e.toNat) < 2 ^ (54 + 1100) := by omega
    have q5 := (Nat.pow_lt_pow_iff_right (by decide : 1 < 2)).mp q4
    omega
  · omega

/-! ### _law_times -/
abbrev s__law_times : Stmt := (top 17)
theorem sc__law_times : FnScope ["number", "factor", "many", "k"] ["number", "factor", "many"] (defScope s__law_times) := ⟨rfl, rfl, rfl, by decide +kernel, rfl, by decide +kernel, by decide +kernel⟩
def sp__law_times : Sp := sp3 fun a b c H Q _ => ∃ x y n : Int, a = .int x ∧ b = .int y ∧ c = .int n ∧ -(2 ^ 64) < y ∧ y < 2 ^ 64 ∧ -(2 ^ 62) ≤ n ∧ n < 2 ^ 62 ∧ Q (.int (x * y ^ n.toNat)) H
section
variable {P : Program} {w : World} {K : PySem.W.Frag} {mg : Str → Option Value} {base : Heap} {f : Addr} {fd : FuncData}
theorem ok__law_times (F : FunD K "_law_times" "_law_times" (defArgs s__law_times) (defBody s__law_times) (defScope s__law_times) [] [] f fd) (m : mg "_law_times" = some (.ref f)) (nb : Nm mg) : Cal P w K mg base 1 "_law_times" sp__law_times [] := by
  refine calD F m sc__law_times (fun _ _ _ _ _ _ us hl => match us, hl with | [_, _, _], _ => rfl) len3 (fun cdv A outer s H vs Q E hr h => ⟨_, (pss_cons (ps_for PassesOwn.never rfl (pi_range1 rfl nb.range (pa_cons (pv 2) pa_nil)) (pg_name (i := 3) sc__law_times.nd rfl (Or.inl rfl))
    (pss_one (ps_set (i := 0) sc__law_times.nd rfl (Or.inl rfl) (pe_op op_mul (pv 0) (pv 1)))))
    (pss_one (ps_ret (pv 0)))), ?_⟩)
  obtain ⟨_, _, _, rfl, x, y, n, rfl, rfl, rfl, h1, h2, h3, h4, h⟩ := h
  walk_at "rd"
  refine r_turns h3 h4 (fun i σ H' => H = H' ∧ ∃ k : Option V, σ = [some (.int (x * y ^ i)), some (.int y), some (.int n), k]) ⟨rfl, none, by rw [Int.pow_zero, Int.mul_one] <;> rfl⟩ ?_ ?_
  · rintro i σ _ hi ⟨rfl, k, rfl⟩
    walk_at "rd"
    refine r_I (.inr ⟨h1, h2⟩) ?_
    walk_at "rd"
    exact ⟨rfl, _, by rw [Int.pow_succ, ← Int.mul_assoc] <;> rfl⟩
  · rintro σ _ ⟨rfl, k, rfl⟩
    walk_at "rd"
    exact h
end

/-! ### the law's state: a list of drawn numbers, its place, and the script; every draw is any number below its bound -/
structure SC where
  a : Addr
  nl : Addr
  sl : Addr
  nums : List Int
  ns : List Int
structure LS (K : PySem.W.Frag) (S : SC) (H : Hp) : Prop where
  st : ∃ k l f : Int, H S.a = some (.lst [.ref S.nl, .int k, .int l, .ref S.sl, .int f])
  nm : H S.nl = some (.lst (S.nums.map V.int))
  len : S.nums.length = 120
  ne : S.nl ≠ S.a
  scr : SqL K H S.sl (S.ns.map V.int)
/-- all but the state's own list stays -/
def Keep (S : SC) (H H' : Hp) : Prop := ∀ b o, b ≠ S.a → H b = some o → H' b = some o
theorem Keep.refl (S : SC) (H : Hp) : Keep S H H := fun _ _ _ h => h
theorem Keep.trans {S : SC} {H H1 H2 : Hp} (a : Keep S H H1) (b : Keep S H1 H2) : Keep S H H2 := fun c o n h => b c o n (a c o n h)
theorem Keep.of {S : SC} {H H' : Hp} (h : Same H H') : Keep S H H' := fun b o _ q => h b o q
section
variable {K : PySem.W.Frag} {S : SC} {H H' : Hp}
theorem LS.same (L : LS K S H) (h : Same H H') : LS K S H' := by
  obtain ⟨⟨k, l, f, e⟩, h2, h3, h4, h5⟩ := L
  exact ⟨⟨k, l, f, h _ _ e⟩, h _ _ h2, h3, h4, h.seq h5⟩
theorem LS.new (L : LS K S H) {p : Addr} (h : H p = none) (o : HO) : LS K S (upd H p o) := L.same (same_upd h o)
theorem LS.put (L : LS K S H) (k l f : Int) : LS K S (upd H S.a (.lst [.ref S.nl, .int k, .int l, .ref S.sl, .int f])) := by
  obtain ⟨⟨k', l', f', e⟩, h2, h3, h4, h5⟩ := L
  refine ⟨⟨k, l, f, upd_same⟩, (upd_ne h4).trans h2, h3, h4, ?_⟩
  rcases h5 with (h | ⟨o, h⟩) | h
  · refine .inl (.inl ((upd_ne fun q => ?_).trans h))
    rw [q, e] at h
    injection h with h
    injection h with h
    cases hn : S.ns with
    | nil =>
      rw [hn] at h
      cases h
    | cons x r =>
      rw [hn] at h
      cases h
  · refine .inl (.inr ⟨o, (upd_ne fun q => ?_).trans h⟩)
    rw [q, e] at h
    cases h
  · exact .inr h
theorem Keep.put (o : HO) : Keep S H (upd H S.a o) := fun b u n h => (upd_ne n).trans h
/-- an address that is free later was free before -/
theorem Keep.free (h : Keep S H H') (L : LS K S H') {p : Addr} (hp : H' p = none) : H p = none := by
  have n : p ≠ S.a := fun e => by
    obtain ⟨k, l, f, q⟩ := L.st
    rw [e, q] at hp
    cases hp
  cases e : H p with
  | none => rfl
  | some o =>
    rw [h p o n e] at hp
    cases hp
theorem LS.ne_free (L : LS K S H) {p : Addr} (hp : H p = none) : p ≠ S.a := fun e => by
  obtain ⟨k, l, f, q⟩ := L.st
  rw [e, q] at hp
  cases hp
end
abbrev s__law_cell : Stmt := (top 12)
theorem sc__law_cell : FnScope ["script", "k"] ["script", "k"] (defScope s__law_cell) := ⟨rfl, rfl, rfl, by decide +kernel, rfl, by decide +kernel, by decide +kernel⟩
abbrev s__law_numbers : Stmt := (top 13)
theorem sc__law_numbers : FnScope ["cell", "many", "rest", "size", "numbers", "k", "mixed"] ["cell", "many"] (defScope s__law_numbers) := ⟨rfl, rfl, rfl, by decide +kernel, rfl, by decide +kernel, by decide +kernel⟩
abbrev s__law_state : Stmt := (top 14)
theorem sc__law_state : FnScope ["script", "left", "numbers", "k", "parted"] ["script", "left"] (defScope s__law_state) := ⟨rfl, rfl, rfl, by decide +kernel, rfl, by decide +kernel, by decide +kernel⟩
abbrev s__law_next : Stmt := (top 15)
theorem sc__law_next : FnScope ["state", "many", "at"] ["state", "many"] (defScope s__law_next) := ⟨rfl, rfl, rfl, by decide +kernel, rfl, by decide +kernel, by decide +kernel⟩
abbrev s__law_big : Stmt := (top 16)
theorem sc__law_big : FnScope ["state", "many", "cell"] ["state", "many"] (defScope s__law_big) := ⟨rfl, rfl, rfl, by decide +kernel, rfl, by decide +kernel, by decide +kernel⟩
def sp__law_cell (K : PySem.W.Frag) : Sp := sp2 fun a b H Q _ => ∃ (sl : Addr) (ns : List Int) (k : Int), a = .ref sl ∧ b = .int k ∧ SqL K H sl (ns.map V.int) ∧ 0 ≤ k ∧ ∀ z : Int, Q (.int z) H
def sp__law_numbers : Sp := sp2 fun a b H Q _ => ∃ (z : Int) (n : Nat), a = .int z ∧ b = .int (n : Int) ∧ n ≤ 1000 ∧ ∀ (p : Addr) (xs : List Int), H p = none → xs.length = n → Q (.ref p) (upd H p (.lst (xs.map V.int)))
def sp__law_state (K : PySem.W.Frag) : Sp := sp2 fun a b H Q _ => ∃ (sl : Addr) (ns : List Int) (l : Int), a = .ref sl ∧ b = .int l ∧ SqL K H sl (ns.map V.int) ∧
  ∀ (S : SC) (H' : Hp), S.sl = sl → S.ns = ns → LS K S H' → Same H H' → H S.a = none → Q (.ref S.a) H'
def sp__law_next (K : PySem.W.Frag) : Sp := sp2 fun a b H Q _ => ∃ (S : SC) (m : Int), a = .ref S.a ∧ b = .int m ∧ 0 < m ∧ LS K S H ∧ ∀ (r : Int) (H' : Hp), 0 ≤ r → r < m → LS K S H' → Keep S H H' → Q (.int r) H'
def sp__law_big (K : PySem.W.Frag) : Sp := sp__law_next K
section
variable {P : Program} {w : World} {K : PySem.W.Frag} {mg : Str → Option Value} {base : Heap} {f : Addr} {fd : FuncData}
theorem ok__law_cell (F : FunD K "_law_cell" "_law_cell" (defArgs s__law_cell) (defBody s__law_cell) (defScope s__law_cell) [] [] f fd) (m : mg "_law_cell" = some (.ref f)) (nb : Nm mg) : Cal P w K mg base 1 "_law_cell" (sp__law_cell K) [] := by
  refine calD F m sc__law_cell (fun _ _ _ _ _ _ us hl => match us, hl with | [_, _], _ => rfl) len2 (fun cdv A outer s H vs Q E hr h => ⟨_, (pss_cons (ps_if (pt_cmpR op_lt (pv 1) (pe_callB call_len_seq (by rfl) nb.len PySem.boot_len (pa_cons (pv 0) pa_nil)) (nomark _))
    (pss_one (ps_ret (pe_ix ix_list (pv 0) (pv 1) (fun _ _ => rfl))))
    pss_nil)
    (pss_one (ps_ret pe_int))), ?_⟩)
  obtain ⟨_, _, rfl, sl, ns, k, rfl, rfl, hs, h0, h⟩ := h
  walk_at "rd"
  refine ⟨_, _, rfl, .inl hs, ?_⟩
  walk_at "rd"
  refine r_ite (fun c => ?_) (fun c => ?_)
  · rw [List.length_map] at c
    obtain ⟨v, _, e⟩ := atI_ints h0 c
    walk_at "rd"
    exact r_ixL hs e (h v)
  · walk_at "rd"
    exact h 0
theorem ok__law_numbers (F : FunD K "_law_numbers" "_law_numbers" (defArgs s__law_numbers) (defBody s__law_numbers) (defScope s__law_numbers) [] [] f fd) (m : mg "_law_numbers" = some (.ref f)) (nb : Nm mg) : Cal P w K mg base 1 "_law_numbers" sp__law_numbers [] := by
  refine calD F m sc__law_numbers (fun _ _ _ _ _ _ us hl => match us, hl with | [_, _], _ => rfl) len2 (fun cdv A outer s H vs Q E hr h => ⟨_, (pss_cons (ps_set (i := 2) sc__law_numbers.nd rfl (Or.inl rfl) (pe_callB call_abs (by rfl) nb.abs (by decide +kernel) (pa_cons (pv 0) pa_nil)))
    (pss_cons (ps_set (i := 3) sc__law_numbers.nd rfl (Or.inl rfl) (pv 2))
    (pss_cons (ps_set (i := 4) sc__law_numbers.nd rfl (Or.inl rfl) (pe_lst pa_nil))
    (pss_cons (ps_for PassesOwn.never rfl (pi_range1 rfl nb.range (pa_cons (pv 1) pa_nil)) (pg_name (i := 5) sc__law_numbers.nd rfl (Or.inl rfl))
    (pss_one (ps_if (PW.pt (pw_and (pt_cmpR op_ge (pv 3) (pe_op op_pow pe_int pe_int) (nomark _)) (pw_and1 (pt_cmpR op_gt (pv 2) pe_int (nomark _)))))
    (pss_cons (ps_expr (pe_bm PySem.F.plainAttrs_list PySem.F.slot_list_append PySem.F.type_list_append mt_append (pv 4) (pa_cons (pe_op op_mod (pe_callTy call_int1 (by rfl) nb.int (by decide +kernel) (pa_cons (pv 2) pa_nil)) pe_int) pa_nil)))
    (pss_one (ps_set (i := 2) sc__law_numbers.nd rfl (Or.inl rfl) (pe_op op_fdiv (pv 2) pe_int))))
    (pss_cons (ps_set (i := 6) sc__law_numbers.nd rfl (Or.inl rfl) (pe_op op_mod (pe_callTy call_int1 (by rfl) nb.int (by decide +kernel) (pa_cons (pe_op op_add (pe_op op_add (pe_op op_mul (pv 3) pe_int) (pe_op op_mul (pv 5) pe_int)) pe_int) pa_nil)) pe_int))
    (pss_cons (ps_set (i := 6) sc__law_numbers.nd rfl (Or.inl rfl) (pe_op op_mod (pe_callTy call_int1 (by rfl) nb.int (by decide +kernel) (pa_cons (pe_op op_add (pe_op op_add (pe_op op_mul (pv 6) (pv 6)) (pe_op op_mul pe_int (pv 5))) pe_int) pa_nil)) pe_int))
    (pss_one (ps_expr (pe_bm PySem.F.plainAttrs_list PySem.F.slot_list_append PySem.F.type_list_append mt_append (pv 4) (pa_cons (pe_op op_mod (pe_callTy call_int1 (by rfl) nb.int (by decide +kernel) (pa_cons (pe_op op_fdiv (pv 6) pe_int) pa_nil)) pe_int) pa_nil)))))))))
    (pss_one (ps_ret (pv 4))))))), ?_⟩)
  obtain ⟨_, _, rfl, z, n, rfl, rfl, hn, h⟩ := h
  walk_at "rd"
  refine ⟨Nat.zero_le _, fun p hp => ?_⟩
  walk_at "rd"
  refine r_turns (by omega) (by omega) (fun i σ H' => ∃ (rest size : Int) (xs : List Int) (k mx : Option V), σ = [some (.int z), some (.int (n : Int)), some (.int rest), some (.int size), some (.ref p), k, mx] ∧ xs.length = i ∧ H' = upd H p (.lst (xs.map V.int))) ⟨_, _, [], none, none, rfl, rfl, rfl⟩ ?_ ?_
  · rintro i σ _ hi ⟨rest, size, xs, k, mx, rfl, hl, rfl⟩
    have hsz : (xs.map V.int).length < sizeLine := small1000 (by rw [List.length_map]; omega)
    have app : ∀ y : Int, upd (upd H p (.lst (xs.map V.int))) p (.lst (xs.map V.int ++ [.int y])) = upd H p (.lst ((xs ++ [y]).map V.int)) := fun y => by
      rw [upd_upd, List.map_append]
      rfl
    have two : ∀ r : Int, ∀ (σ' : St) (k mx : Option V) (rest size : Int), σ' = [some (.int z), some (.int (n : Int)), some (.int rest), some (.int size), some (.ref p), k, mx] → ∃ (rest size : Int) (xs' : List Int) (k mx : Option V), σ' = [some (.int z), some (.int (n : Int)), some (.int rest), some (.int size), some (.ref p), k, mx] ∧ xs'.length = i + 1 ∧ upd (upd H p (.lst (xs.map V.int))) p (.lst (xs.map V.int ++ [.int r])) = upd H p (.lst (xs'.map V.int)) := fun r σ' k mx rest size e =>
      ⟨rest, size, xs ++ [r], k, mx, e, by rw [List.length_append, hl]; rfl, app r⟩
    walk_at "rd"
    refine r_ite (fun c1 => ?_) (fun c1 => ?_)
    · walk_at "rd"
      refine r_ite (fun c2 => ?_) (fun c2 => ?_)
      · walk_at "rd"
        refine ⟨tyL upd_same, ?_⟩
        walk_at "rd"
        refine r_app upd_same hsz ?_
        walk_at "rd"
        exact two _ _ _ _ _ _ rfl
      · walk_at "rd"
        refine r_I (.inl ⟨by omega, by omega⟩) ?_
        walk_at "rd"
        refine ⟨tyL upd_same, ?_⟩
        walk_at "rd"
        refine r_app upd_same hsz ?_
        walk_at "rd"
        exact two _ _ _ _ _ _ rfl
    · walk_at "rd"
      refine r_I (.inl ⟨by omega, by omega⟩) ?_
      walk_at "rd"
      refine ⟨tyL upd_same, ?_⟩
      walk_at "rd"
      refine r_app upd_same hsz ?_
      walk_at "rd"
      exact two _ _ _ _ _ _ rfl
  · rintro σ _ ⟨rest, size, xs, k, mx, rfl, hl, rfl⟩
    walk_at "rd"
    exact h p xs hp (by omega)
theorem ok__law_next (F : FunD K "_law_next" "_law_next" (defArgs s__law_next) (defBody s__law_next) (defScope s__law_next) [] [] f fd) (m : mg "_law_next" = some (.ref f)) (nb : Nm mg) : Cal P w K mg base 1 "_law_next" (sp__law_next K) [] := by
  refine calD F m sc__law_next (fun _ _ _ _ _ _ us hl => match us, hl with | [_, _], _ => rfl) len2 (fun cdv A outer s H vs Q E hr h => ⟨_, (pss_cons (ps_set (i := 2) sc__law_next.nd rfl (Or.inl rfl) (pe_ix ix_list (pv 0) pe_int (fun _ _ => rfl)))
    (pss_cons (ps_asg (pe_op op_add (pv 2) pe_int) (pg_sub (pv 0) pe_int set_list))
    (pss_one (ps_ret (pe_op op_mod (pe_callTy call_int1 (by rfl) nb.int (by decide +kernel) (pa_cons (pe_op op_add (pe_ix ix_list (pe_ix ix_list (pv 0) pe_int (fun _ _ => rfl)) (pe_op op_mod (pv 2) pe_int) (fun _ _ => rfl)) (pe_op op_mul pe_int (pe_op op_fdiv (pv 2) pe_int))) pa_nil)) (pv 1)))))), ?_⟩)
  obtain ⟨_, _, rfl, S, mm, rfl, rfl, h0, L, h⟩ := h
  obtain ⟨k, l, f5, e⟩ := L.st
  walk_at "rd"
  refine r_ixL (SqL.of e) rfl ?_
  walk_at "rd"
  refine r_setL e rfl ?_
  walk_at "rd"
  have L2 := L.put (k + 1) l f5
  obtain ⟨v, _, ev⟩ := atI_ints (ns := S.nums) (k := k % 120) (by omega) (by rw [L.len]; omega)
  refine r_ixL (SqL.of upd_same) rfl ?_
  walk_at "rd"
  refine r_ixL (SqL.of L2.nm) ev ?_
  walk_at "rd"
  refine r_I h0 ?_
  exact h _ _ (Int.emod_nonneg _ (by omega)) (Int.emod_lt_of_pos _ h0) L2 (Keep.put _)
theorem ok__law_big (F : FunD K "_law_big" "_law_big" (defArgs s__law_big) (defBody s__law_big) (defScope s__law_big) [] [] f fd) (m : mg "_law_big" = some (.ref f)) (nb : Nm mg) (c__law_cell : Cal P w K mg base 1 "_law_cell" (sp__law_cell K) []) (c__law_next : Cal P w K mg base 1 "_law_next" (sp__law_next K) []) : Cal P w K mg base 2 "_law_big" (sp__law_big K) [] := by
  refine calD F m sc__law_big (fun _ _ _ _ _ _ us hl => match us, hl with | [_, _], _ => rfl) len2 (fun cdv A outer s H vs Q E hr h => ⟨_, (pss_cons (ps_set (i := 2) sc__law_big.nd rfl (Or.inl rfl) (pe_callB call_abs (by rfl) nb.abs (by decide +kernel) (pa_cons (pe_c c__law_cell hr (by decide) rfl (pa_cons (pe_ix ix_list (pv 0) pe_int (fun _ _ => rfl)) (pa_cons (pe_op op_add pe_int (pe_c c__law_next hr (by decide) rfl (pa_cons (pv 0) (pa_cons pe_int pa_nil)))) pa_nil))) pa_nil)))
    (pss_one (ps_ret (pe_op op_mod (pe_callTy call_int1 (by rfl) nb.int (by decide +kernel) (pa_cons (pe_op op_add (pe_op op_mul (pv 2) pe_int) (pe_c c__law_next hr (by decide) rfl (pa_cons (pv 0) (pa_cons pe_int pa_nil)))) pa_nil)) (pv 1))))), ?_⟩)
  obtain ⟨_, _, rfl, S, mm, rfl, rfl, h0, L, h⟩ := h
  obtain ⟨k, l, f5, e⟩ := L.st
  walk_at "rd"
  refine r_ixL (SqL.of e) rfl ?_
  walk_at "rd"
  refine ⟨_, _, rfl, S, _, rfl, rfl, by decide, L, fun r1 H1 a1 b1 L1 K1 => ?_⟩
  walk_at "rd"
  refine ⟨_, _, rfl, S.sl, S.ns, _, rfl, rfl, L1.scr, by omega, fun z => ?_⟩
  walk_at "rd"
  refine ⟨_, _, rfl, S, _, rfl, rfl, by decide, L1, fun r2 H2 a2 b2 L2 K2 => ?_⟩
  walk_at "rd"
  refine r_I h0 ?_
  exact h _ _ (Int.emod_nonneg _ (by omega)) (Int.emod_lt_of_pos _ h0) L2 (K1.trans K2)
theorem ok__law_state (F : FunD K "_law_state" "_law_state" (defArgs s__law_state) (defBody s__law_state) (defScope s__law_state) [] [] f fd) (m : mg "_law_state" = some (.ref f)) (nb : Nm mg) (c__law_cell : Cal P w K mg base 1 "_law_cell" (sp__law_cell K) []) (c__law_numbers : Cal P w K mg base 1 "_law_numbers" sp__law_numbers []) : Cal P w K mg base 2 "_law_state" (sp__law_state K) [] := by
  refine calD F m sc__law_state (fun _ _ _ _ _ _ us hl => match us, hl with | [_, _], _ => rfl) len2 (fun cdv A outer s H vs Q E hr h => ⟨_, (pss_cons (ps_set (i := 2) sc__law_state.nd rfl (Or.inl rfl) (pe_lst pa_nil))
    (pss_cons (ps_setLc (i := 4) (own := [("k", 3)]) (g := gName 3) (tt := tYes) rfl sc__law_state.nd rfl rfl (sw_true rfl rfl rfl (by decide +kernel)) (pi_range1 rfl nb.range (pa_cons pe_int pa_nil)) (blkOk_by (N := ["script", "left", "numbers", "k", "parted"]) (sc := defScope s__law_state) (by decide +kernel)) (fun _ _ _ _ _ => pg_name (i := 3) sc__law_state.nd rfl (Or.inl rfl)) (fun _ _ _ _ _ => pts_nil) (fun _ _ _ _ _ => (pe_c c__law_numbers hr (by decide) rfl (pa_cons (pe_c c__law_cell hr (by decide) rfl (pa_cons (pv 0) (pa_cons (pv 3) pa_nil))) (pa_cons pe_int pa_nil)))))
    (pss_cons (ps_for PassesOwn.never rfl (pi_range1 rfl nb.range (pa_cons pe_int pa_nil)) (pg_name (i := 3) sc__law_state.nd rfl (Or.inl rfl))
    (pss_cons (ps_expr (pe_bm PySem.F.plainAttrs_list PySem.F.slot_list_append PySem.F.type_list_append mt_append (pv 2) (pa_cons (pe_ix ix_list (pe_ix ix_list (pv 4) pe_int (fun _ _ => rfl)) (pv 3) (fun _ _ => rfl)) pa_nil)))
    (pss_cons (ps_expr (pe_bm PySem.F.plainAttrs_list PySem.F.slot_list_append PySem.F.type_list_append mt_append (pv 2) (pa_cons (pe_ix ix_list (pe_ix ix_list (pv 4) pe_int (fun _ _ => rfl)) (pv 3) (fun _ _ => rfl)) pa_nil)))
    (pss_one (ps_expr (pe_bm PySem.F.plainAttrs_list PySem.F.slot_list_append PySem.F.type_list_append mt_append (pv 2) (pa_cons (pe_ix ix_list (pe_ix ix_list (pv 4) pe_int (fun _ _ => rfl)) (pv 3) (fun _ _ => rfl)) pa_nil)))))))
    (pss_one (ps_ret (pe_lst (pa_cons (pv 2) (pa_cons pe_int (pa_cons (pv 1) (pa_cons (pv 0) (pa_cons pe_int pa_nil))))))))))), ?_⟩)
  obtain ⟨_, _, rfl, sl, ns, l, rfl, rfl, hs, h⟩ := h
  walk_at "rd"
  refine ⟨Nat.zero_le _, fun p hp => ?_⟩
  walk_at "rd"
  refine r_lcR 3 (by decide) (fun D hD => ?_) (fun R hR => hR)
  have sp0 := same_upd hp (.lst [])
  have pD : p ≠ D := fun e => by
    rw [← e, upd_same] at hD
    cases hD
  refine lc_range (fun i H' => ∃ ps : List Addr, H' D = some (.lst (ps.map V.ref)) ∧ ps.length = i ∧ (∀ q ∈ ps, q ≠ D ∧ ∃ xs : List Int, H' q = some (.lst (xs.map V.int)) ∧ xs.length = 40) ∧ Same (upd H p (.lst [])) H') ⟨[], upd_same, rfl, fun q hq => (by cases hq), same_upd hD _⟩ ?_ ?_
  · rintro i H' hi ⟨ps, e1, e2, e3, e4⟩
    walk_at "rd"
    refine ⟨rfl, ?_⟩
    walk_at "rd"
    have hs' : SqL K H' sl (ns.map V.int) := e4.seq (sp0.seq hs)
    refine ⟨_, _, rfl, sl, ns, _, rfl, rfl, hs', by omega, fun z => ?_⟩
    walk_at "rd"
    refine ⟨_, _, rfl, z, 40, rfl, rfl, by decide, fun q xs hq hx => ?_⟩
    have Dq : D ≠ q := ne_of_none e1 hq
    refine ⟨_, (upd_ne Dq).trans e1, small1000 (by rw [List.length_map]; omega), ps ++ [q], ?_, by rw [List.length_append, e2]; rfl, ?_, ?_⟩
    · rw [upd_same, List.map_append]
      rfl
    · intro q' hq'
      rcases List.mem_append.mp hq' with h1 | h1
      · obtain ⟨n1, xs', x1, x2⟩ := e3 q' h1
        exact ⟨n1, xs', by rw [upd_ne n1, upd_ne (ne_of_none x1 hq)]; exact x1, x2⟩
      · have e5 : q' = q := by simpa using h1
        subst e5
        exact ⟨Ne.symm Dq, xs, by rw [upd_ne (Ne.symm Dq), upd_same], hx⟩
    · intro b o hb
      have hb2 := e4 b o hb
      rw [upd_ne (ne_of_none hb hD), upd_ne (ne_of_none hb2 hq)]
      exact hb2
  · rintro H' ⟨ps, e1, e2, e3, e4⟩
    walk_at "rd"
    obtain ⟨p0, p1, p2, rfl⟩ : ∃ p0 p1 p2, ps = [p0, p1, p2] := match ps, e2 with | [a, b, c], _ => ⟨a, b, c, rfl⟩
    obtain ⟨_, x0, y0, z0⟩ := e3 p0 (by simp)
    obtain ⟨_, x1, y1, z1⟩ := e3 p1 (by simp)
    obtain ⟨_, x2, y2, z2⟩ := e3 p2 (by simp)
    have hp' : H' p = some (.lst []) := e4 _ _ upd_same
    have ne0 : ∀ {q : Addr} {xs : List Int}, H' q = some (.lst (xs.map V.int)) → xs.length = 40 → q ≠ p := fun {q xs} h1 h2 h3 => by
      rw [h3, hp'] at h1
      injection h1 with h1
      injection h1 with h1
      have h4 := congrArg List.length h1
      rw [List.length_map, h2] at h4
      cases h4
    have n0 := ne0 y0 z0
    have n1 := ne0 y1 z1
    have n2 := ne0 y2 z2
    have nD : D ≠ p := Ne.symm pD
    have fit : ∀ (xs : List Int) (i : Nat), xs.length = 40 → (i : Int) < 40 → ∃ v, atI (xs.map V.int) (i : Int) = some (.int v) := fun xs i h1 h2 => by
      obtain ⟨v, _, e⟩ := atI_ints (ns := xs) (k := (i : Int)) (by omega) (by omega)
      exact ⟨v, e⟩
    refine r_turns (by decide) (by decide) (fun i σ H2 => ∃ (zs : List Int) (kk : Option V), σ = [some (.ref sl), some (.int l), some (.ref p), kk, some (.ref D)] ∧ zs.length = 3 * i ∧ H2 = upd H' p (.lst (zs.map V.int))) ⟨[], none, rfl, rfl, ?_⟩ ?_ ?_
    · funext b
      by_cases c : b = p
      · subst c
        rw [upd_same, hp']
        rfl
      · rw [upd_ne c]
    · rintro i σ _ hi ⟨zs, kk, rfl, hz, rfl⟩
      obtain ⟨v0, a0⟩ := fit x0 i z0 hi
      obtain ⟨v1, a1⟩ := fit x1 i z1 hi
      obtain ⟨v2, a2⟩ := fit x2 i z2 hi
      walk_at "rd"
      refine ⟨tyL upd_same, ?_⟩
      walk_at "rd"
      refine r_ixL (SqL.of ((upd_ne nD).trans e1)) rfl ?_
      walk_at "rd"
      refine r_ixL (SqL.of ((upd_ne n0).trans y0)) a0 ?_
      walk_at "rd"
      refine r_app upd_same (small1000 (by rw [List.length_map]; omega)) ?_
      rw [upd_upd]
      walk_at "rd"
      refine ⟨tyL upd_same, ?_⟩
      walk_at "rd"
      refine r_ixL (SqL.of ((upd_ne nD).trans e1)) rfl ?_
      walk_at "rd"
      refine r_ixL (SqL.of ((upd_ne n1).trans y1)) a1 ?_
      walk_at "rd"
      refine r_app upd_same (small1000 (by rw [List.length_append, List.length_map]; show zs.length + 1 ≤ 1000; omega)) ?_
      rw [upd_upd]
      walk_at "rd"
      refine ⟨tyL upd_same, ?_⟩
      walk_at "rd"
      refine r_ixL (SqL.of ((upd_ne nD).trans e1)) rfl ?_
      walk_at "rd"
      refine r_ixL (SqL.of ((upd_ne n2).trans y2)) a2 ?_
      walk_at "rd"
      refine r_app upd_same (small1000 (by rw [List.length_append, List.length_append, List.length_map]; show zs.length + 1 + 1 ≤ 1000; omega)) ?_
      rw [upd_upd]
      exact ⟨zs ++ [v0] ++ [v1] ++ [v2], _, rfl, by simp [hz]; omega, by simp⟩
    · rintro σ _ ⟨zs, kk, rfl, hz, rfl⟩
      walk_at "rd"
      refine ⟨(by show 5 ≤ sizeLine; decide), fun a ha => ?_⟩
      have sa := same_upd ha (.lst [.ref p, .int 0, .int l, .ref sl, .int 3])
      have pa : p ≠ a := ne_of_none upd_same ha
      have all : Same H (upd H' p (.lst (zs.map V.int))) := fun b o hb => by
        rw [upd_ne (ne_of_none hb hp)]
        exact e4 _ _ (sp0 _ _ hb)
      have hsl : SqL K H sl (ns.map V.int) := hs
      refine h ⟨a, p, sl, zs, ns⟩ _ rfl rfl ⟨⟨0, l, 3, upd_same⟩, (upd_ne pa).trans upd_same, by rw [hz]; rfl, pa, sa.seq (all.seq hs)⟩ (all.trans sa) (all.free ha)
end

/-! ### draws -/
section
variable {K : PySem.W.Frag} {S : SC} {σ : St} {H : Hp} {Q : VK} {E : XK}
theorem d_next {m : Int} (L : LS K S H) (hm : 0 < m) (h : ∀ (r : Int) (H' : Hp), 0 ≤ r → r < m → LS K S H' → Keep S H H' → Q (.int r) H') : sp__law_next K ([.ref S.a, .int m] ++ []) H Q E := ⟨_, _, rfl, S, m, rfl, rfl, hm, L, h⟩
/-- a new object -/
theorem d_new {o : HO} {R : Addr → Hp → Prop} {c : Prop} (L : LS K S H) (hc : c) (h : ∀ (p : Addr) (H' : Hp), LS K S H' → Keep S H H' → Same H H' → H p = none → H' p = some o → p ≠ S.a → R p H') : c ∧ ∀ p, H p = none → R p (upd H p o) :=
  ⟨hc, fun p hp => h p _ (L.new hp o) (Keep.of (same_upd hp o)) (same_upd hp o) hp upd_same (L.ne_free hp)⟩
theorem d_newI {zs : List Int} {R : Addr → Hp → Prop} {c : Prop} (L : LS K S H) (hc : c) (h : ∀ (p : Addr) (H' : Hp), LS K S H' → Keep S H H' → Same H H' → H p = none → H' p = some (.lst (zs.map V.int)) → p ≠ S.a → R p H') : c ∧ ∀ p, H p = none → R p (upd H p (.lst (zs.map V.int))) := d_new L hc h
/-- [x, y, ..][_law_next(state, n)] -/
theorem d_pick {xs : List V} {n : Int} {i : Nat} (L : LS K S H) (e : σ[i]? = some (some (.ref S.a))) (hl : xs.length ≤ sizeLine) (hn : 0 < n) (hx : (xs.length : Int) = n)
    (h : ∀ (v : V) (H' : Hp), v ∈ xs → LS K S H' → Keep S H H' → Q v H') :
    xs.length ≤ sizeLine ∧ ∀ p, H p = none → tCall (sp__law_next K) [] E (tCons (tVar i) (tCons (tC (.int n)) tNil)) σ (upd H p (.lst xs)) fun y H2 => rIxL K (.ref p) y H2 Q := by
  refine ⟨hl, fun p hp => ⟨_, e, ?_⟩⟩
  show sp__law_next K ([.ref S.a, .int n] ++ []) (upd H p (.lst xs)) (fun y H2 => rIxL K (.ref p) y H2 Q) E
  refine d_next (L.new hp _) hn fun r H' h0 h1 L' k => ?_
  have hr : r.toNat < xs.length := by omega
  have er : r = ((r.toNat : Nat) : Int) := by omega
  refine ⟨p, xs, r, xs[r.toNat], rfl, rfl, SqL.of (k _ _ (L.ne_free hp) upd_same), ?_, ?_⟩
  · have q := atI_nat (xs := xs) (j := r.toNat) (v := xs[r.toNat]) (List.getElem?_eq_getElem hr)
    rw [← er] at q
    exact q
  · exact h _ _ (List.getElem_mem hr) L' ((Keep.of (same_upd hp _)).trans k)
/-- the same, all of them numbers from lo to hi -/
theorem d_pickI {xs : List V} {n : Int} {i : Nat} (lo hi : Int) (L : LS K S H) (e : σ[i]? = some (some (.ref S.a))) (hl : xs.length ≤ sizeLine) (hn : 0 < n) (hx : (xs.length : Int) = n) (hz : ∀ v ∈ xs, ∃ z, v = V.int z ∧ lo ≤ z ∧ z ≤ hi)
    (h : ∀ (z : Int) (H' : Hp), lo ≤ z → z ≤ hi → V.int z ∈ xs → LS K S H' → Keep S H H' → Q (.int z) H') :
    xs.length ≤ sizeLine ∧ ∀ p, H p = none → tCall (sp__law_next K) [] E (tCons (tVar i) (tCons (tC (.int n)) tNil)) σ (upd H p (.lst xs)) fun y H2 => rIxL K (.ref p) y H2 Q :=
  d_pick L e hl hn hx fun v H' hv L' k => by
    obtain ⟨z, rfl, h1, h2⟩ := hz v hv
    exact h z H' h1 h2 hv L' k
theorem all_nil {p : V → Prop} : ∀ v ∈ ([] : List V), p v := fun v hv => by cases hv
theorem all_cons {p : V → Prop} {x : V} {xs : List V} (h : p x) (t : ∀ v ∈ xs, p v) : ∀ v ∈ x :: xs, p v := fun v hv => by
  rcases List.mem_cons.mp hv with e | e
  · rw [e]
    exact h
  · exact t v e
end

/-! ### floats -/
abbrev s__worth : Stmt := (top 10)
theorem sc__worth : FnScope ["bits", "fraction_bits", "field_bits", "rest", "fraction", "negative", "field", "sign", "centre"] ["bits", "fraction_bits", "field_bits"] (defScope s__worth) := ⟨rfl, rfl, rfl, by decide +kernel, rfl, by decide +kernel, by decide +kernel⟩
abbrev s_half : Stmt := (top 7)
theorem sc_half : FnScope ["bits"] ["bits"] (defScope s_half) := ⟨rfl, rfl, rfl, by decide +kernel, rfl, by decide +kernel, by decide +kernel⟩
abbrev s_single : Stmt := (top 8)
theorem sc_single : FnScope ["bits"] ["bits"] (defScope s_single) := ⟨rfl, rfl, rfl, by decide +kernel, rfl, by decide +kernel, by decide +kernel⟩
abbrev s_double : Stmt := (top 9)
theorem sc_double : FnScope ["bits"] ["bits"] (defScope s_double) := ⟨rfl, rfl, rfl, by decide +kernel, rfl, by decide +kernel, by decide +kernel⟩
/-- a float of p bits of fraction and q bits of field: its bits by its parts -/
structure Bits (p q : Nat) (b d f x : Int) : Prop where
  b : b = (d * 2 ^ q + f) * 2 ^ p + x
  d0 : 0 ≤ d
  d1 : d ≤ 1
  f0 : 0 ≤ f
  f1 : f < 2 ^ q
  x0 : 0 ≤ x
  x1 : x < 2 ^ p
/-- the number and the power of two of the worth -/
def parts (p q : Nat) (d f x : Int) : Int × Int :=
  if f = 0 then ((1 - 2 * d) * x, 1 - (2 ^ (q - 1) - 1) - p) else ((1 - 2 * d) * (2 ^ p + x), f - (2 ^ (q - 1) - 1) - p)
def Gives (p q : Nat) (d f x : Int) (H : Hp) (Q : VK) : Prop :=
  ∀ H', Same H H' → (f = 2 ^ q - 1 → Q .non H') ∧ (f ≠ 2 ^ q - 1 → ∀ r u v, fromB (parts p q d f x).1 (parts p q d f x).2 = (u, v) → H' r = some (.tup [.int u, .int v]) → Q (.ref r) H')
def sp__worth : Sp := sp3 fun a b c H Q _ => ∃ (z d f x : Int) (p q : Nat), a = .int z ∧ b = .int p ∧ c = .int q ∧ 1 ≤ q ∧ q ≤ 11 ∧ p ≤ 60 ∧ Bits p q z d f x ∧ Gives p q d f x H Q
def sp_float (p q : Nat) : Sp := sp1 fun a H Q _ => ∃ z d f x : Int, a = .int z ∧ Bits p q z d f x ∧ Gives p q d f x H Q
abbrev sp_half : Sp := sp_float 10 5
abbrev sp_single : Sp := sp_float 23 8
abbrev sp_double : Sp := sp_float 52 11
theorem pos_two (n : Nat) : (0 : Int) < 2 ^ n := Int.pow_pos (by decide)
theorem div_parts {a x k : Int} (h : 0 < k) (h0 : 0 ≤ x) (h1 : x < k) : (a * k + x) / k = a ∧ (a * k + x) % k = x := by
  rw [Int.add_comm, Int.add_mul_ediv_right _ _ (by omega), Int.add_mul_emod_self_right, Int.ediv_eq_zero_of_lt h0 h1, Int.emod_eq_of_lt h0 h1]
  omega
section
variable {P : Program} {w : World} {K : PySem.W.Frag} {mg : Str → Option Value} {base : Heap} {f : Addr} {fd : FuncData}
theorem ok__worth (F : FunD K "_worth" "_worth" (defArgs s__worth) (defBody s__worth) (defScope s__worth) [] [] f fd) (m : mg "_worth" = some (.ref f)) (nb : Nm mg) (c_from_binary : Cal P w K mg base 2 "from_binary" sp_from_binary []) : Cal P w K mg base 3 "_worth" sp__worth [] := by
  refine calD F m sc__worth (fun _ _ _ _ _ _ us hl => match us, hl with | [_, _, _], _ => rfl) len3 (fun cdv A outer s H vs Q E hr h => ⟨_, (pss_cons (ps_asg (pe_callB call_divmodW (by rfl) nb.divmod (by decide +kernel) (pa_cons (pv 0) (pa_cons (pe_op op_shl pe_int (pv 1)) pa_nil))) (pg_tup rfl (pgs_cons (pg_name (i := 3) sc__worth.nd rfl (Or.inl rfl)) (pgs_cons (pg_name (i := 4) sc__worth.nd rfl (Or.inl rfl)) pgs_nil))))
    (pss_cons (ps_asg (pe_callB call_divmodW (by rfl) nb.divmod (by decide +kernel) (pa_cons (pv 3) (pa_cons (pe_op op_shl pe_int (pv 2)) pa_nil))) (pg_tup rfl (pgs_cons (pg_name (i := 5) sc__worth.nd rfl (Or.inl rfl)) (pgs_cons (pg_name (i := 6) sc__worth.nd rfl (Or.inl rfl)) pgs_nil))))
    (pss_cons (ps_set (i := 7) sc__worth.nd rfl (Or.inl rfl) (pe_ifExp (pt_cmpR op_eq (pv 5) pe_int (nomark _)) (pe_un un_neg pe_int) pe_int))
    (pss_cons (ps_set (i := 8) sc__worth.nd rfl (Or.inl rfl) (pe_op op_sub (pe_op op_shl pe_int (pe_op op_sub (pv 2) pe_int)) pe_int))
    (pss_cons (ps_if (pt_cmpR op_eq (pv 6) (pe_op op_sub (pe_op op_shl pe_int (pv 2)) pe_int) (nomark _))
    (pss_one (ps_ret pe_non))
    pss_nil)
    (pss_cons (ps_if (pt_cmpR op_eq (pv 6) pe_int (nomark _))
    (pss_one (ps_ret (pe_c c_from_binary hr (by decide) rfl (pa_cons (pe_op op_mul (pv 7) (pv 4)) (pa_cons (pe_op op_sub (pe_op op_sub pe_int (pv 8)) (pv 1)) pa_nil)))))
    pss_nil)
    (pss_one (ps_ret (pe_c c_from_binary hr (by decide) rfl (pa_cons (pe_op op_mul (pv 7) (pe_op op_add (pe_op op_shl pe_int (pv 1)) (pv 4))) (pa_cons (pe_op op_sub (pe_op op_sub (pv 6) (pv 8)) (pv 1)) pa_nil))))))))))), ?_⟩)
  obtain ⟨_, _, _, rfl, z, d, g, x, p, q, rfl, rfl, rfl, q1, q2, p2, B, h12⟩ := h
  have dx := div_parts (pos_two p) B.x0 B.x1 (a := d * 2 ^ q + g)
  have df := div_parts (pos_two q) B.f0 B.f1 (a := d)
  have sh : ∀ n : Nat, (1 : Int) * 2 ^ ((n : Nat) : Int).toNat = 2 ^ n := fun n => by rw [Int.one_mul, Int.toNat_natCast]
  have sh1 : (1 : Int) * 2 ^ ((q : Int) - 1).toNat = 2 ^ (q - 1) := by
    rw [Int.one_mul]
    congr 1
    omega
  have bq : (2 : Int) ^ q ≤ 2 ^ 11 := by exact_mod_cast Nat.pow_le_pow_right (n := 2) (by decide) q2
  have bp : (2 : Int) ^ p ≤ 2 ^ 60 := by exact_mod_cast Nat.pow_le_pow_right (n := 2) (by decide) p2
  have hq := pos_two q
  have hp := pos_two p
  have b1 : d * 2 ^ q + g < 2 ^ 12 := by
    have : d * 2 ^ q ≤ 1 * 2 ^ q := Int.mul_le_mul_of_nonneg_right B.d1 (Int.le_of_lt hq)
    have := B.f1
    omega
  have b0 : 0 ≤ d * 2 ^ q + g := by
    have : 0 ≤ d * 2 ^ q := Int.mul_nonneg B.d0 (Int.le_of_lt hq)
    have := B.f0
    omega
  have z0 : 0 ≤ (d * 2 ^ q + g) * 2 ^ p + x := by
    have : 0 ≤ (d * 2 ^ q + g) * 2 ^ p := Int.mul_nonneg b0 (Int.le_of_lt hp)
    have := B.x0
    omega
  have z1 : (d * 2 ^ q + g) * 2 ^ p + x < 2 ^ 73 := by
    have : (d * 2 ^ q + g) * 2 ^ p ≤ 2 ^ 12 * 2 ^ 60 := Int.mul_le_mul (by omega) bp (Int.le_of_lt hp) (by decide)
    have := B.x1
    omega
  have hb := B.b
  subst hb
  walk_at "rd"
  refine r_I (C := CPow) ⟨by omega, by omega, by decide⟩ ?_
  rw [sh p]
  walk_at "rd"
  refine ⟨_, _, rfl, divp_ok hp (Nat.le_trans (PyProof.Rows.intBits_le (k := 73) (by omega)) (by omega)), fun t ht => ?_⟩
  rw [dx.1, dx.2]
  refine r_gtup (SqT.of upd_same) rfl ?_
  have s1 := same_upd ht (.tup [.int (d * 2 ^ q + g), .int x])
  generalize upd H t (.tup [.int (d * 2 ^ q + g), .int x]) = H1 at s1 ⊢
  walk_at "rd"
  refine r_I (C := CPow) ⟨by omega, by omega, by decide⟩ ?_
  rw [sh q]
  walk_at "rd"
  refine ⟨_, _, rfl, divp_ok hq (Nat.le_trans (PyProof.Rows.intBits_le (k := 73) (by omega)) (by omega)), fun t ht => ?_⟩
  rw [df.1, df.2]
  refine r_gtup (SqT.of upd_same) rfl ?_
  have s2 := s1.trans (same_upd ht (.tup [.int d, .int g]))
  generalize upd H1 t (.tup [.int d, .int g]) = H2 at s2 ⊢
  walk_at "rd"
  refine r_iteJ (.int (1 - 2 * d)) (fun c R hR => ?_) (fun c R hR => ?_) ?_
  · subst c
    exact ⟨1, rfl, hR⟩
  · have e : d = 0 := by
      have := B.d0
      have := B.d1
      omega
    subst e
    exact hR
  walk_at "rd"
  refine r_I (C := CPow) ⟨by omega, by omega, by decide⟩ ?_
  rw [sh1]
  walk_at "rd"
  refine r_I (C := CPow) ⟨by omega, by omega, by decide⟩ ?_
  rw [sh q]
  walk_at "rd"
  have sgn : -1 ≤ 1 - 2 * d ∧ 1 - 2 * d ≤ 1 := by
    have := B.d0
    have := B.d1
    omega
  have big : ∀ y : Int, 0 ≤ y → y < 2 ^ 62 → ((1 - 2 * d) * y).natAbs < 2 ^ 1000 := fun y y0 y1 => by
    have h3 : ((1 - 2 * d) * y).natAbs ≤ 1 * y.natAbs := by
      rw [Int.natAbs_mul]
      exact Nat.mul_le_mul_right _ (by omega)
    have h4 : (2 : Nat) ^ 62 ≤ 2 ^ 1000 := Nat.pow_le_pow_right (by decide) (by decide)
    omega
  have bq1 : (0 : Int) < 2 ^ (q - 1) ∧ (2 : Int) ^ (q - 1) ≤ 2 ^ 11 := ⟨pos_two _, by exact_mod_cast Nat.pow_le_pow_right (n := 2) (by decide) (show q - 1 ≤ 11 by omega)⟩
  have gq := B.f1
  have g0 := B.f0
  have x0 := B.x0
  have x1 := B.x1
  refine r_ite (fun c => ?_) (fun c => ?_)
  · walk_at "rd"
    exact (h12 H2 s2).1 c
  · have h2 := fun H' s' => (h12 H' s').2 c
    unfold parts at h2
    walk_at "rd"
    refine r_ite (fun c2 => ?_) (fun c2 => ?_)
    · rw [if_pos c2] at h2
      walk_at "rd"
      refine r_I (.inl ⟨by omega, by omega⟩) ?_
      walk_at "rd"
      refine ⟨_, _, rfl, _, _, rfl, rfl, big x x0 (by omega), by omega, by omega, fun r u v e hr => ?_⟩
      exact h2 _ (s2.trans (same_upd hr _)) r u v e upd_same
    · rw [if_neg c2] at h2
      walk_at "rd"
      refine r_I (C := CPow) ⟨by omega, by omega, by decide⟩ ?_
      rw [sh p]
      walk_at "rd"
      refine r_I (.inl ⟨by omega, by omega⟩) ?_
      walk_at "rd"
      refine ⟨_, _, rfl, _, _, rfl, rfl, big _ (by omega) (by omega), by omega, by omega, fun r u v e hr => ?_⟩
      exact h2 _ (s2.trans (same_upd hr _)) r u v e upd_same
theorem ok_half (F : FunD K "half" "half" (defArgs s_half) (defBody s_half) (defScope s_half) [] [] f fd) (m : mg "half" = some (.ref f)) (nb : Nm mg) (c__worth : Cal P w K mg base 3 "_worth" sp__worth []) : Cal P w K mg base 4 "half" sp_half [] := by
  refine calD F m sc_half (fun _ _ _ _ _ _ us hl => match us, hl with | [_], _ => rfl) len1 (fun cdv A outer s H vs Q E hr h => ⟨_, (pss_one (ps_ret (pe_c c__worth hr (by decide) rfl (pa_cons (pv 0) (pa_cons pe_int (pa_cons pe_int pa_nil)))))), ?_⟩)
  obtain ⟨_, rfl, z, d, g, x, rfl, B, h⟩ := h
  walk_at "rd"
  exact ⟨_, _, _, rfl, z, d, g, x, 10, 5, rfl, rfl, rfl, by decide, by decide, by decide, B, h⟩
theorem ok_single (F : FunD K "single" "single" (defArgs s_single) (defBody s_single) (defScope s_single) [] [] f fd) (m : mg "single" = some (.ref f)) (nb : Nm mg) (c__worth : Cal P w K mg base 3 "_worth" sp__worth []) : Cal P w K mg base 4 "single" sp_single [] := by
  refine calD F m sc_single (fun _ _ _ _ _ _ us hl => match us, hl with | [_], _ => rfl) len1 (fun cdv A outer s H vs Q E hr h => ⟨_, (pss_one (ps_ret (pe_c c__worth hr (by decide) rfl (pa_cons (pv 0) (pa_cons pe_int (pa_cons pe_int pa_nil)))))), ?_⟩)
  obtain ⟨_, rfl, z, d, g, x, rfl, B, h⟩ := h
  walk_at "rd"
  exact ⟨_, _, _, rfl, z, d, g, x, 23, 8, rfl, rfl, rfl, by decide, by decide, by decide, B, h⟩
theorem ok_double (F : FunD K "double" "double" (defArgs s_double) (defBody s_double) (defScope s_double) [] [] f fd) (m : mg "double" = some (.ref f)) (nb : Nm mg) (c__worth : Cal P w K mg base 3 "_worth" sp__worth []) : Cal P w K mg base 4 "double" sp_double [] := by
  refine calD F m sc_double (fun _ _ _ _ _ _ us hl => match us, hl with | [_], _ => rfl) len1 (fun cdv A outer s H vs Q E hr h => ⟨_, (pss_one (ps_ret (pe_c c__worth hr (by decide) rfl (pa_cons (pv 0) (pa_cons pe_int (pa_cons pe_int pa_nil)))))), ?_⟩)
  obtain ⟨_, rfl, z, d, g, x, rfl, B, h⟩ := h
  walk_at "rd"
  exact ⟨_, _, _, rfl, z, d, g, x, 52, 11, rfl, rfl, rfl, by decide, by decide, by decide, B, h⟩
end

/-! ### the law -/
abbrev s__law_right : Stmt := (top 18)
theorem sc__law_right : FnScope ["pair", "sign", "fraction", "field", "places", "powers", "one", "middle", "two", "worth", "left", "right"] ["pair", "sign", "fraction", "field", "places", "powers"] (defScope s__law_right) := ⟨rfl, rfl, rfl, by decide +kernel, rfl, by decide +kernel, by decide +kernel⟩
abbrev s_law : Stmt := (top 19)
theorem sc_law : FnScope ["script", "state", "kind", "places", "powers", "one", "most", "field", "fraction", "down", "bits", "pair"] ["script"] (defScope s_law) := ⟨rfl, rfl, rfl, by decide +kernel, rfl, by decide +kernel, by decide +kernel⟩
/-- what the program gave for such a float -/
def PairIs (p q : Nat) (d f x : Int) (v : V) (H : Hp) : Prop :=
  (f = 2 ^ q - 1 ∧ v = .non) ∨ (f ≠ 2 ^ q - 1 ∧ ∃ r u w, v = .ref r ∧ H r = some (.tup [.int u, .int w]) ∧ fromB (parts p q d f x).1 (parts p q d f x).2 = (u, w))
def sp__law_right : Sp := sp6 fun a b c e g h H Q _ => ∃ (d f x : Int) (p q : Nat), b = .int (1 - 2 * d) ∧ c = .int x ∧ e = .int f ∧ g = .int p ∧ h = .int q ∧ 1 ≤ q ∧ q ≤ 11 ∧ p ≤ 52 ∧ 0 ≤ d ∧ d ≤ 1 ∧ 0 ≤ f ∧ f < 2 ^ q ∧ 0 ≤ x ∧ x < 2 ^ p ∧ PairIs p q d f x a H ∧ ∀ H', Same H H' → Q (.bl true) H'
section
variable {P : Program} {w : World} {K : PySem.W.Frag} {mg : Str → Option Value} {base : Heap} {f : Addr} {fd : FuncData}
theorem ok__law_right (F : FunD K "_law_right" "_law_right" (defArgs s__law_right) (defBody s__law_right) (defScope s__law_right) [] [] f fd) (m : mg "_law_right" = some (.ref f)) (nb : Nm mg) (c__law_times : Cal P w K mg base 1 "_law_times" sp__law_times []) : Cal P w K mg base 2 "_law_right" sp__law_right [] := by
  refine calD F m sc__law_right (fun _ _ _ _ _ _ us hl => match us, hl with | [_, _, _, _, _, _], _ => rfl) len6 (fun cdv A outer s H vs Q E hr h => ⟨_, (pss_cons (ps_set (i := 6) sc__law_right.nd rfl (Or.inl rfl) (pe_c c__law_times hr (by decide) rfl (pa_cons pe_int (pa_cons pe_int (pa_cons (pv 4) pa_nil)))))
    (pss_cons (ps_set (i := 7) sc__law_right.nd rfl (Or.inl rfl) (pe_op op_sub (pe_c c__law_times hr (by decide) rfl (pa_cons pe_int (pa_cons pe_int (pa_cons (pe_op op_sub (pv 5) pe_int) pa_nil)))) pe_int))
    (pss_cons (ps_if (pt_cmpR op_eq (pv 3) (pe_op op_add (pe_op op_mul pe_int (pv 7)) pe_int) (nomark _))
    (pss_one (ps_ret (pe_cmpR op_isN (pv 0) pe_non (nomark _))))
    pss_nil)
    (pss_cons (ps_if (PW.pt (pw_or (pt_cmpR op_isN (pv 0) pe_non (nomark _)) (pw_or (pt_not (pt_val (pe_callB call_isi (by rfl) nb.isinstance (by decide +kernel) (pa_cons (pv 0) (pa_cons (pe_bltn (v := .ty "tuple") (u := .type "tuple") (by rfl) nb.tuple (by decide +kernel) rfl) pa_nil))))) (pw_or1 (pt_cmpR op_ne (pe_callB call_len_seq (by rfl) nb.len PySem.boot_len (pa_cons (pv 0) pa_nil)) pe_int (nomark _))))))
    (pss_one (ps_ret pe_bl))
    pss_nil)
    (pss_cons (ps_if (PW.pt (pw_or (pt_val (pe_callB call_isi (by rfl) nb.isinstance (by decide +kernel) (pa_cons (pe_ix ix_tup (pv 0) pe_int (fun _ _ => rfl)) (pa_cons (pe_bltn (v := .ty "bool") (u := .type "bool") (by rfl) nb.bool (by decide +kernel) rfl) pa_nil)))) (pw_or1 (pt_val (pe_callB call_isi (by rfl) nb.isinstance (by decide +kernel) (pa_cons (pe_ix ix_tup (pv 0) pe_int (fun _ _ => rfl)) (pa_cons (pe_bltn (v := .ty "bool") (u := .type "bool") (by rfl) nb.bool (by decide +kernel) rfl) pa_nil)))))))
    (pss_one (ps_ret pe_bl))
    pss_nil)
    (pss_cons (ps_set (i := 8) sc__law_right.nd rfl (Or.inl rfl) (pe_op op_sub (pe_op op_sub pe_int (pv 7)) (pv 4)))
    (pss_cons (ps_set (i := 9) sc__law_right.nd rfl (Or.inl rfl) (pv 2))
    (pss_cut (ps_if (pt_cmpR op_gt (pv 3) pe_int (nomark _))
    (pss_cons (ps_set (i := 8) sc__law_right.nd rfl (Or.inl rfl) (pe_op op_sub (pe_op op_sub (pv 3) (pv 7)) (pv 4)))
    (pss_one (ps_set (i := 9) sc__law_right.nd rfl (Or.inl rfl) (pe_op op_add (pv 6) (pv 2)))))
    pss_nil)
    (pss_cons (ps_if (pt_cmpR op_eq (pv 9) pe_int (nomark _))
    (pss_one (ps_ret (pe_cmpR (op_eqD hr.units) (pv 0) (pe_tup (pa_cons pe_int (pa_cons pe_int pa_nil))) (nomark _))))
    pss_nil)
    (pss_cons (ps_if (PW.pt (pw_or (pt_cmpR op_eq (pe_op op_mod (pe_ix ix_tup (pv 0) pe_int (fun _ _ => rfl)) pe_int) pe_int (nomark _)) (pw_or (pt_cmpR op_lt (pe_ix ix_tup (pv 0) pe_int (fun _ _ => rfl)) (pe_un un_neg pe_int) (nomark _)) (pw_or1 (pt_cmpR op_gt (pe_ix ix_tup (pv 0) pe_int (fun _ _ => rfl)) pe_int (nomark _))))))
    (pss_one (ps_ret pe_bl))
    pss_nil)
    (pss_cons (ps_set (i := 10) sc__law_right.nd rfl (Or.inl rfl) (pe_c c__law_times hr (by decide) rfl (pa_cons (pe_c c__law_times hr (by decide) rfl (pa_cons (pe_op op_mul (pv 1) (pv 9)) (pa_cons pe_int (pa_cons (pe_callB (cr_max rfl) (by rfl) nb.max (by decide +kernel) (pa_cons (pe_lst (pa_cons pe_int (pa_cons (pv 8) pa_nil))) pa_nil)) pa_nil)))) (pa_cons pe_int (pa_cons (pe_callB (cr_max rfl) (by rfl) nb.max (by decide +kernel) (pa_cons (pe_lst (pa_cons pe_int (pa_cons (pe_un un_neg (pe_ix ix_tup (pv 0) pe_int (fun _ _ => rfl))) pa_nil))) pa_nil)) pa_nil)))))
    (pss_cons (ps_set (i := 11) sc__law_right.nd rfl (Or.inl rfl) (pe_c c__law_times hr (by decide) rfl (pa_cons (pe_c c__law_times hr (by decide) rfl (pa_cons (pe_ix ix_tup (pv 0) pe_int (fun _ _ => rfl)) (pa_cons pe_int (pa_cons (pe_callB (cr_max rfl) (by rfl) nb.max (by decide +kernel) (pa_cons (pe_lst (pa_cons pe_int (pa_cons (pe_un un_neg (pv 8)) pa_nil))) pa_nil)) pa_nil)))) (pa_cons pe_int (pa_cons (pe_callB (cr_max rfl) (by rfl) nb.max (by decide +kernel) (pa_cons (pe_lst (pa_cons pe_int (pa_cons (pe_ix ix_tup (pv 0) pe_int (fun _ _ => rfl)) pa_nil))) pa_nil)) pa_nil)))))
    (pss_one (ps_ret (pe_cmpR op_eq (pv 10) (pv 11) (nomark _)))))))))))))))), ?_⟩)
  obtain ⟨v, _, _, _, _, _, rfl, d, g, x, p, q, rfl, rfl, rfl, rfl, rfl, q1, q2, p2, d0, d1, g0, g1, x0, x1, hv, h⟩ := h
  have bq : (2 : Int) ^ q ≤ 2 ^ 11 := by exact_mod_cast Nat.pow_le_pow_right (n := 2) (by decide) q2
  have bp : (2 : Int) ^ p ≤ 2 ^ 52 := by exact_mod_cast Nat.pow_le_pow_right (n := 2) (by decide) p2
  have hp := pos_two p
  have e2 : (2 : Int) ^ q = 2 * 2 ^ (q - 1) := by
    obtain ⟨k, rfl⟩ : ∃ k, q = k + 1 := ⟨q - 1, by omega⟩
    rw [Nat.add_sub_cancel, Int.pow_succ]
    omega
  have h2 := pos_two (q - 1)
  walk_at "rd"
  refine ⟨_, _, _, rfl, _, _, _, rfl, rfl, rfl, by decide, by decide, by omega, by omega, ?_⟩
  rw [show (1 : Int) * 2 ^ ((p : Nat) : Int).toNat = 2 ^ p by rw [Int.one_mul, Int.toNat_natCast]]
  walk_at "rd"
  refine ⟨_, _, _, rfl, _, _, _, rfl, rfl, rfl, by decide, by decide, by omega, by omega, ?_⟩
  rw [show (1 : Int) * 2 ^ ((q : Int) - 1).toNat = 2 ^ (q - 1) by
    rw [Int.one_mul]
    congr 1
    omega]
  walk_at "rd"
  rcases hv with ⟨c, rfl⟩ | ⟨c, r, u, y, rfl, hr1, hw⟩
  · refine r_itep (by omega) ?_
    walk_at "rd"
    rw [decide_eq_true rfl]
    exact h _ (Same.refl _)
  have W := worth_of hw
  refine r_iteN (by omega) ?_
  walk_at "rd"
  refine r_iteN ?_ ?_
  · intro e
    cases e
  walk_at "rd"
  refine r_isi (b := true) (.base (.tup hr1)) (by decide +kernel) ?_
  walk_at "rd"
  refine ⟨_, _, rfl, .inr (SqT.of hr1), ?_⟩
  walk_at "rd"
  refine r_no rfl ?_
  walk_at "rd"
  refine r_ixT (SqT.of hr1) rfl ?_
  walk_at "rd"
  refine r_isi (b := false) (.base (.int u)) (by decide +kernel) ?_
  walk_at "rd"
  refine r_ixT (SqT.of hr1) rfl ?_
  walk_at "rd"
  refine r_isi (b := false) (.base (.int y)) (by decide +kernel) ?_
  walk_at "rd"
  refine r_cut (fun σ H' => H = H' ∧ ∃ t z : Int, σ = [some (.ref r), some (.int (1 - 2 * d)), some (.int x), some (.int g), some (.int p), some (.int q), some (.int (2 ^ p)), some (.int (2 ^ (q - 1) - 1)), some (.int t), some (.int z), none, none] ∧ t = (parts p q d g x).2 ∧ (1 - 2 * d) * z = (parts p q d g x).1 ∧ 0 ≤ z ∧ z < 2 ^ 53 ∧ -1100 ≤ t ∧ t ≤ 1100) ?_ ?_
  · walk_at "rd"
    refine r_ite (fun c3 => ?_) (fun c3 => ?_)
    · walk_at "rd"
      have e : parts p q d g x = ((1 - 2 * d) * (2 ^ p + x), g - (2 ^ (q - 1) - 1) - p) := by
        unfold parts
        rw [if_neg (by omega)]
      exact ⟨rfl, _, _, rfl, by rw [e], by rw [e], by omega, by omega, by omega, by omega⟩
    · walk_at "rd"
      have e : parts p q d g x = ((1 - 2 * d) * x, (1 - (2 ^ (q - 1) - 1) - p : Int)) := by
        unfold parts
        rw [if_pos (by omega)]
      exact ⟨rfl, _, _, rfl, by rw [e], by rw [e], by omega, by omega, by omega, by omega⟩
  rintro σ _ ⟨rfl, t, z, rfl, et, ez, z0, z1, t0, t1⟩
  rw [← et, ← ez] at W
  have m0 : (1 - 2 * d) * z = 0 ↔ z = 0 := by
    rw [Int.mul_eq_zero]
    omega
  have hm : ((1 - 2 * d) * z).natAbs < 2 ^ 54 := by
    have h3 : ((1 - 2 * d) * z).natAbs ≤ 1 * z.natAbs := by
      rw [Int.natAbs_mul]
      exact Nat.mul_le_mul_right _ (by omega)
    omega
  walk_at "rd"
  refine r_ite (fun c4 => ?_) (fun c4 => ?_)
  · obtain ⟨e1, e2⟩ := W.zero (m0.mpr c4)
    subst e1 e2
    walk_at "rd"
    refine ⟨by show 2 ≤ sizeLine; decide, fun q hq => ?_⟩
    have hq1 : upd H q (.tup [.int 0, .int 0]) q = some (.tup [.int 0, .int 0]) := upd_same
    have hp1 : upd H q (.tup [.int 0, .int 0]) r = some (.tup [.int 0, .int 0]) := (upd_ne (ne_of_none hr1 hq)).trans hr1
    refine r_eqDs (d := .tuple [.int 0, .int 0]) (.tup (SqT.of hp1) (.cons (.int 0) (.cons (.int 0) .nil))) (.tup (SqT.of hq1) (.cons (.int 0) (.cons (.int 0) .nil))) rfl ?_
    exact h _ (same_upd hq _)
  · have c := fun e => c4 (m0.mp e)
    have w1 := W.lo c
    have w2 := W.lo2 c
    have w3 := worth_hi W hm (by omega) c
    walk_at "rd"
    refine r_ixT (SqT.of hr1) rfl ?_
    walk_at "rd"
    refine r_iteN (W.odd c) ?_
    walk_at "rd"
    refine r_ixT (SqT.of hr1) rfl ?_
    walk_at "rd"
    refine r_iteN (by omega) ?_
    walk_at "rd"
    refine r_ixT (SqT.of hr1) rfl ?_
    walk_at "rd"
    refine r_iteN (by omega) ?_
    walk_at "rd"
    refine r_I (.inl ⟨by omega, by omega⟩) ?_
    walk_at "rd"
    refine ⟨by show 2 ≤ sizeLine; decide, fun q1 n1 => ?_⟩
    have s1 := same_upd n1 (.lst [.int 0, .int t])
    walk_at "rd"
    refine r_max2 upd_same ?_
    generalize upd H q1 (.lst [.int 0, .int t]) = H10 at s1 ⊢
    have hP := s1 _ _ hr1
    walk_at "rd"
    refine ⟨_, _, _, rfl, _, _, _, rfl, rfl, rfl, by decide, by decide, by omega, by omega, ?_⟩
    walk_at "rd"
    refine r_ixT (SqT.of hP) rfl ?_
    walk_at "rd"
    refine ⟨by show 2 ≤ sizeLine; decide, fun q2 n2 => ?_⟩
    have s2 := s1.trans (same_upd n2 (.lst [.int 0, .int (-y)]))
    walk_at "rd"
    refine r_max2 upd_same ?_
    generalize upd H10 q2 (.lst [.int 0, .int (-y)]) = H11 at s2 ⊢
    have hP := s2 _ _ hr1
    walk_at "rd"
    refine ⟨_, _, _, rfl, _, _, _, rfl, rfl, rfl, by decide, by decide, by omega, by omega, ?_⟩
    walk_at "rd"
    refine r_ixT (SqT.of hP) rfl ?_
    walk_at "rd"
    refine ⟨by show 2 ≤ sizeLine; decide, fun q3 n3 => ?_⟩
    have s3 := s2.trans (same_upd n3 (.lst [.int 0, .int (-t)]))
    walk_at "rd"
    refine r_max2 upd_same ?_
    generalize upd H11 q3 (.lst [.int 0, .int (-t)]) = H12 at s3 ⊢
    have hP := s3 _ _ hr1
    walk_at "rd"
    refine ⟨_, _, _, rfl, _, _, _, rfl, rfl, rfl, by decide, by decide, by omega, by omega, ?_⟩
    walk_at "rd"
    refine r_ixT (SqT.of hP) rfl ?_
    walk_at "rd"
    refine ⟨by show 2 ≤ sizeLine; decide, fun q4 n4 => ?_⟩
    have s4 := s3.trans (same_upd n4 (.lst [.int 0, .int y]))
    walk_at "rd"
    refine r_max2 upd_same ?_
    generalize upd H12 q4 (.lst [.int 0, .int y]) = H13 at s4 ⊢
    walk_at "rd"
    refine ⟨_, _, _, rfl, _, _, _, rfl, rfl, rfl, by decide, by decide, by omega, by omega, ?_⟩
    walk_at "rd"
    rw [decide_eq_true (W.eq c)]
    exact h _ s4
theorem ok_law (F : FunD K "law" "law" (defArgs s_law) (defBody s_law) (defScope s_law) [] [] f fd) (nb : Nm mg) (c_half : Cal P w K mg base 4 "half" sp_half []) (c_single : Cal P w K mg base 4 "single" sp_single []) (c_double : Cal P w K mg base 4 "double" sp_double []) (c__law_state : Cal P w K mg base 2 "_law_state" (sp__law_state K) []) (c__law_next : Cal P w K mg base 1 "_law_next" (sp__law_next K) []) (c__law_big : Cal P w K mg base 2 "_law_big" (sp__law_big K) []) (c__law_times : Cal P w K mg base 1 "_law_times" sp__law_times []) (c__law_right : Cal P w K mg base 2 "_law_right" sp__law_right []) : FnOk P w K mg base CX0 5 f fd ["script"] (sp_law K) := by
  refine fnD F sc_law len1 (fun cdv A outer s H vs Q E hr h => ⟨_, (pss_cons (ps_set (i := 1) sc_law.nd rfl (Or.inl rfl) (pe_c c__law_state hr (by decide) rfl (pa_cons (pv 0) (pa_cons pe_int pa_nil))))
    (pss_cons (ps_for PassesOwn.never rfl (pi_range1 rfl nb.range (pa_cons pe_int pa_nil)) (pg_name (i := 2) sc_law.nd rfl (Or.inl rfl))
    (pss_cons (ps_set (i := 3) sc_law.nd rfl (Or.inl rfl) (pe_ix ix_list (pe_lst (pa_cons pe_int (pa_cons pe_int (pa_cons pe_int pa_nil)))) (pv 2) (fun _ _ => rfl)))
    (pss_cons (ps_set (i := 4) sc_law.nd rfl (Or.inl rfl) (pe_ix ix_list (pe_lst (pa_cons pe_int (pa_cons pe_int (pa_cons pe_int pa_nil)))) (pv 2) (fun _ _ => rfl)))
    (pss_cons (ps_set (i := 5) sc_law.nd rfl (Or.inl rfl) (pe_c c__law_times hr (by decide) rfl (pa_cons pe_int (pa_cons pe_int (pa_cons (pv 3) pa_nil)))))
    (pss_cons (ps_set (i := 6) sc_law.nd rfl (Or.inl rfl) (pe_c c__law_times hr (by decide) rfl (pa_cons pe_int (pa_cons pe_int (pa_cons (pv 4) pa_nil)))))
    (pss_cons (ps_set (i := 7) sc_law.nd rfl (Or.inl rfl) (pe_ix ix_list (pe_lst (pa_cons pe_int (pa_cons pe_int (pa_cons (pe_op op_sub (pv 6) pe_int) (pa_cons (pe_op op_sub (pv 6) pe_int) (pa_cons (pe_op op_sub (pe_op op_add (pe_op op_fdiv (pv 6) pe_int) (pe_c c__law_next hr (by decide) rfl (pa_cons (pv 1) (pa_cons pe_int pa_nil)))) pe_int) (pa_cons (pe_c c__law_big hr (by decide) rfl (pa_cons (pv 1) (pa_cons (pv 6) pa_nil))) pa_nil))))))) (pe_c c__law_next hr (by decide) rfl (pa_cons (pv 1) (pa_cons pe_int pa_nil))) (fun _ _ => rfl)))
    (pss_cons (ps_set (i := 8) sc_law.nd rfl (Or.inl rfl) (pe_ix ix_list (pe_lst (pa_cons pe_int (pa_cons pe_int (pa_cons (pe_op op_sub (pv 5) pe_int) (pa_cons (pe_c c__law_big hr (by decide) rfl (pa_cons (pv 1) (pa_cons (pv 5) pa_nil))) (pa_cons (pe_op op_fdiv (pv 5) pe_int) pa_nil)))))) (pe_c c__law_next hr (by decide) rfl (pa_cons (pv 1) (pa_cons pe_int pa_nil))) (fun _ _ => rfl)))
    (pss_cons (ps_set (i := 9) sc_law.nd rfl (Or.inl rfl) (pe_c c__law_next hr (by decide) rfl (pa_cons (pv 1) (pa_cons pe_int pa_nil))))
    (pss_cons (ps_set (i := 10) sc_law.nd rfl (Or.inl rfl) (pe_op op_add (pe_op op_mul (pe_op op_add (pe_op op_mul (pv 9) (pv 6)) (pv 7)) (pv 5)) (pv 8)))
    (pss_cons (ps_set (i := 11) sc_law.nd rfl (Or.inl rfl) pe_non)
    (pss_cut (ps_if (pt_cmpR op_eq (pv 2) pe_int (nomark _))
    (pss_one (ps_set (i := 11) sc_law.nd rfl (Or.inl rfl) (pe_c c_half hr (by decide) rfl (pa_cons (pv 10) pa_nil))))
    (pss_one (ps_if (pt_cmpR op_eq (pv 2) pe_int (nomark _))
    (pss_one (ps_set (i := 11) sc_law.nd rfl (Or.inl rfl) (pe_c c_single hr (by decide) rfl (pa_cons (pv 10) pa_nil))))
    (pss_one (ps_set (i := 11) sc_law.nd rfl (Or.inl rfl) (pe_c c_double hr (by decide) rfl (pa_cons (pv 10) pa_nil)))))))
    (pss_one (ps_if (pt_not (pt_val (pe_c c__law_right hr (by decide) rfl (pa_cons (pv 11) (pa_cons (pe_op op_sub pe_int (pe_op op_mul pe_int (pv 9))) (pa_cons (pv 8) (pa_cons (pv 7) (pa_cons (pv 3) (pa_cons (pv 4) pa_nil)))))))))
    (pss_one (ps_ret pe_bl))
    pss_nil)))))))))))))
    (pss_one (ps_ret pe_bl)))), ?_⟩)
  obtain ⟨_, rfl, sl, ns, rfl, hs, h⟩ := h
  walk_at "rd"
  refine ⟨_, _, rfl, sl, ns, _, rfl, rfl, hs, fun S H1 _ _ L1 _ _ => ?_⟩
  walk_at "rd"
  refine r_turns (by decide) (by decide) (fun i σ H => LS K S H ∧ ∃ v2 v3 v4 v5 v6 v7 v8 v9 v10 v11, σ = [some (.ref sl), some (.ref S.a), v2, v3, v4, v5, v6, v7, v8, v9, v10, v11]) ⟨L1, _, _, _, _, _, _, _, _, _, _, rfl⟩ ?_ ?_
  · rintro i σ H2 hi ⟨L2, v2, v3, v4, v5, v6, v7, v8, v9, v10, v11, rfl⟩
    obtain ⟨p, q, hpq, ep, eq⟩ : ∃ p q : Nat, ((i = 0 ∧ p = 10 ∧ q = 5) ∨ (i = 1 ∧ p = 23 ∧ q = 8) ∨ (i = 2 ∧ p = 52 ∧ q = 11)) ∧ atI [V.int 10, V.int 23, V.int 52] (i : Int) = some (.int p) ∧ atI [V.int 5, V.int 8, V.int 11] (i : Int) = some (.int q) := by
      have hc : i = 0 ∨ i = 1 ∨ i = 2 := by omega
      rcases hc with rfl | rfl | rfl
      · exact ⟨10, 5, .inl ⟨rfl, rfl, rfl⟩, rfl, rfl⟩
      · exact ⟨23, 8, .inr (.inl ⟨rfl, rfl, rfl⟩), rfl, rfl⟩
      · exact ⟨52, 11, .inr (.inr ⟨rfl, rfl, rfl⟩), rfl, rfl⟩
    have q2 : q ≤ 11 := by omega
    have q5 : 5 ≤ q := by omega
    have p2 : p ≤ 52 := by omega
    have bq : (2 : Int) ^ q ≤ 2 ^ 11 := by exact_mod_cast Nat.pow_le_pow_right (n := 2) (by decide) q2
    have bq5 : (2 : Int) ^ 5 ≤ 2 ^ q := by exact_mod_cast Nat.pow_le_pow_right (n := 2) (by decide) q5
    have bp : (2 : Int) ^ p ≤ 2 ^ 52 := by exact_mod_cast Nat.pow_le_pow_right (n := 2) (by decide) p2
    have bp1 : (2 : Int) ^ 10 ≤ 2 ^ p := by exact_mod_cast Nat.pow_le_pow_right (n := 2) (by decide) (show 10 ≤ p by omega)
    have tm : ∀ n : Nat, (1 : Int) * 2 ^ ((n : Nat) : Int).toNat = 2 ^ n := fun n => by rw [Int.one_mul, Int.toNat_natCast]
    walk_at "rd"
    refine ⟨by show 3 ≤ sizeLine; decide, fun a1 n1 => ?_⟩
    have L3 := L2.new n1 (.lst [.int 10, .int 23, .int 52])
    walk_at "rd"
    refine r_ixL (SqL.of upd_same) ep ?_
    generalize upd H2 a1 (.lst [.int 10, .int 23, .int 52]) = H3 at L3 ⊢
    walk_at "rd"
    refine ⟨by show 3 ≤ sizeLine; decide, fun a2 n2 => ?_⟩
    have L4 := L3.new n2 (.lst [.int 5, .int 8, .int 11])
    walk_at "rd"
    refine r_ixL (SqL.of upd_same) eq ?_
    generalize upd H3 a2 (.lst [.int 5, .int 8, .int 11]) = H4 at L4 ⊢
    walk_at "rd"
    refine ⟨_, _, _, rfl, _, _, _, rfl, rfl, rfl, by decide, by decide, by omega, by omega, ?_⟩
    rw [tm p]
    walk_at "rd"
    refine ⟨_, _, _, rfl, _, _, _, rfl, rfl, rfl, by decide, by decide, by omega, by omega, ?_⟩
    rw [tm q]
    walk_at "rd"
    refine d_next L4 (by decide) fun r5 H5 c5 d5 L5 k5 => ?_
    walk_at "rd"
    refine d_next L5 (by omega) fun r6 H6 c6 d6 L6 k6 => ?_
    walk_at "rd"
    refine d_pickI 0 (2 ^ q - 1) L6 rfl (by show 6 ≤ sizeLine; decide) (by decide) rfl (all_cons ⟨_, rfl, by omega, by omega⟩ (all_cons ⟨_, rfl, by omega, by omega⟩ (all_cons ⟨_, rfl, by omega, by omega⟩ (all_cons ⟨_, rfl, by omega, by omega⟩ (all_cons ⟨_, rfl, by omega, by omega⟩ (all_cons ⟨_, rfl, by omega, by omega⟩ all_nil)))))) fun g H7 g0 g1 _ L7 k7 => ?_
    walk_at "rd"
    refine d_next L7 (by omega) fun r8 H8 c8 d8 L8 k8 => ?_
    walk_at "rd"
    refine d_pickI 0 (2 ^ p - 1) L8 rfl (by show 5 ≤ sizeLine; decide) (by decide) rfl (all_cons ⟨_, rfl, by omega, by omega⟩ (all_cons ⟨_, rfl, by omega, by omega⟩ (all_cons ⟨_, rfl, by omega, by omega⟩ (all_cons ⟨_, rfl, by omega, by omega⟩ (all_cons ⟨_, rfl, by omega, by omega⟩ all_nil))))) fun x H9 x0 x1 _ L9 k9 => ?_
    walk_at "rd"
    refine d_next L9 (by decide) fun d H10 d0 d1 L10 k10 => ?_
    walk_at "rd"
    refine r_I (.inl ⟨by omega, by omega⟩) ?_
    walk_at "rd"
    refine r_I (.inr ⟨by omega, by omega⟩) ?_
    walk_at "rd"
    have B : Bits p q ((d * 2 ^ q + g) * 2 ^ p + x) d g x := ⟨rfl, d0, by omega, g0, by omega, x0, by omega⟩
    generalize (d * 2 ^ q + g) * 2 ^ p + x = z at B ⊢
    refine r_cut (fun σ H => LS K S H ∧ ∃ v : V, PairIs p q d g x v H ∧ σ = [some (.ref sl), some (.ref S.a), some (.int i), some (.int p), some (.int q), some (.int (2 ^ p)), some (.int (2 ^ q)), some (.int g), some (.int x), some (.int d), some (.int z), some v]) ?_ ?_
    · have fin : ∀ (R : VK), (∀ v H, LS K S H → PairIs p q d g x v H → R v H) → Gives p q d g x H10 R := fun R hR H' s' =>
        ⟨fun c => hR _ _ (L10.same s') (.inl ⟨c, rfl⟩), fun c r u w e hr' => hR _ _ (L10.same s') (.inr ⟨c, r, u, w, rfl, hr', e⟩)⟩
      walk_at "rd"
      refine r_ite (fun c => ?_) (fun c => ?_)
      · have e1 : p = 10 ∧ q = 5 := by omega
        obtain ⟨rfl, rfl⟩ := e1
        walk_at "rd"
        refine ⟨_, rfl, z, d, g, x, rfl, B, fin _ fun v H L hv => ?_⟩
        walk_at "rd"
        exact ⟨L, v, hv, rfl⟩
      · walk_at "rd"
        refine r_ite (fun c2 => ?_) (fun c2 => ?_)
        · have e1 : p = 23 ∧ q = 8 := by omega
          obtain ⟨rfl, rfl⟩ := e1
          walk_at "rd"
          refine ⟨_, rfl, z, d, g, x, rfl, B, fin _ fun v H L hv => ?_⟩
          walk_at "rd"
          exact ⟨L, v, hv, rfl⟩
        · have e1 : p = 52 ∧ q = 11 := by omega
          obtain ⟨rfl, rfl⟩ := e1
          walk_at "rd"
          refine ⟨_, rfl, z, d, g, x, rfl, B, fin _ fun v H L hv => ?_⟩
          walk_at "rd"
          exact ⟨L, v, hv, rfl⟩
    rintro σ H11 ⟨L11, v, hv, rfl⟩
    walk_at "rd"
    refine ⟨_, _, _, _, _, _, rfl, d, g, x, p, q, rfl, rfl, rfl, rfl, rfl, by omega, q2, p2, d0, by omega, g0, by omega, x0, by omega, hv, fun H12 s12 => ?_⟩
    walk_at "rd"
    exact ⟨L11.same s12, _, _, _, _, _, _, _, _, _, _, rfl⟩
  · rintro σ H2 ⟨L2, v2, v3, v4, v5, v6, v7, v8, v9, v10, v11, rfl⟩
    walk_at "rd"
    exact h _
end

def d_normal : He.DefD := ⟨("normal", none), "normal", "normal", defArgs s_normal, defBody s_normal, defScope s_normal, [], []⟩
def d_power : He.DefD := ⟨("power", none), "power", "power", defArgs s_power, defBody s_power, defScope s_power, [], []⟩
def d_from_binary : He.DefD := ⟨("from_binary", none), "from_binary", "from_binary", defArgs s_from_binary, defBody s_from_binary, defScope s_from_binary, [], []⟩
def d__worth : He.DefD := ⟨("_worth", none), "_worth", "_worth", defArgs s__worth, defBody s__worth, defScope s__worth, [], []⟩
def d_half : He.DefD := ⟨("half", none), "half", "half", defArgs s_half, defBody s_half, defScope s_half, [], []⟩
def d_single : He.DefD := ⟨("single", none), "single", "single", defArgs s_single, defBody s_single, defScope s_single, [], []⟩
def d_double : He.DefD := ⟨("double", none), "double", "double", defArgs s_double, defBody s_double, defScope s_double, [], []⟩
def d__law_cell : He.DefD := ⟨("_law_cell", none), "_law_cell", "_law_cell", defArgs s__law_cell, defBody s__law_cell, defScope s__law_cell, [], []⟩
def d__law_numbers : He.DefD := ⟨("_law_numbers", none), "_law_numbers", "_law_numbers", defArgs s__law_numbers, defBody s__law_numbers, defScope s__law_numbers, [], []⟩
def d__law_state : He.DefD := ⟨("_law_state", none), "_law_state", "_law_state", defArgs s__law_state, defBody s__law_state, defScope s__law_state, [], []⟩
def d__law_next : He.DefD := ⟨("_law_next", none), "_law_next", "_law_next", defArgs s__law_next, defBody s__law_next, defScope s__law_next, [], []⟩
def d__law_big : He.DefD := ⟨("_law_big", none), "_law_big", "_law_big", defArgs s__law_big, defBody s__law_big, defScope s__law_big, [], []⟩
def d__law_times : He.DefD := ⟨("_law_times", none), "_law_times", "_law_times", defArgs s__law_times, defBody s__law_times, defScope s__law_times, [], []⟩
def d__law_right : He.DefD := ⟨("_law_right", none), "_law_right", "_law_right", defArgs s__law_right, defBody s__law_right, defScope s__law_right, [], []⟩
def d_law : He.DefD := ⟨("law", none), "law", "law", defArgs s_law, defBody s_law, defScope s_law, [], []⟩
def fn : List He.DefD := [d_normal, d_power, d_from_binary, d__worth, d_half, d_single, d_double, d__law_cell, d__law_numbers, d__law_state, d__law_next, d__law_big, d__law_times, d__law_right, d_law]
def fa : List He.Fa := [.glo "normal", .glo "power", .glo "from_binary", .glo "_worth", .glo "half", .glo "single", .glo "double", .glo "_law_cell", .glo "_law_numbers", .glo "_law_state", .glo "_law_next", .glo "_law_big", .glo "_law_times", .glo "_law_right", .glo "law", .free "divmod", .free "len", .free "abs", .free "range", .free "int", .free "isinstance", .free "tuple", .free "bool", .free "max", .int "PIECE" 10000000000000000000000000000000000000000000000000000000000000000, .int "PIECE_DIGITS" 64]
abbrev RR : PySem.W.OpenRow := PySem.W.OpenLaw.row PySem.Challenge.rw_formsalike_k04_floats
def loose : List PySem.Str := (["PIECE_DIGITS", "PIECE", "normal", "power", "from_binary", "half", "single", "double", "_worth", "_law_cell", "_law_numbers", "_law_state", "_law_next", "_law_big", "_law_times", "_law_right"] : List PySem.Str)
abbrev hk : PySem.W.Hook := He.hookD 4 fa fn
def ob (s : PySem.W.SharedT) : He.AlD := He.obsDG 4 fa fn (HandSHeadRun.getT s)
theorem ob_eq (s : PySem.W.SharedT) : ob s = hk.obs s.abs := He.obsDG_eq (HandSHeadRun.getT_eq s)
theorem run (w : World) : HandSHeadRun.RunEq RR (PySem.W.view RR.prog [19]) hk ob 3000 loose w := by
  intro os
  kernel_rfl
theorem facts {P : Program} {w : World} {K : PySem.W.Frag} {h : Heap} {mg : Str → Option Value} {f : Addr} (X : K.In h) (G : h.Ns mainGlobals mg) (hfa : mg ("law" : Str) = some (.ref f)) (c : He.SaysD fa fn K) :
    ∃ fd : FuncData, (∀ (s : Shared) (v : Value), BindsTo s fd ⟨[v], []⟩ [("script", v)]) ∧ ∀ base : Heap, K.In base → base.Ns mainGlobals mg → FnOk P w K mg base CX0 5 f fd ["script"] (sp_law K) := by
  obtain ⟨fd_normal, F_normal⟩ := c.def_ 0 (d := d_normal) rfl
  have m_normal := He.glo_ok X G (c.fact 0 (f := .glo "normal") rfl)
  obtain ⟨fd_power, F_power⟩ := c.def_ 1 (d := d_power) rfl
  have m_power := He.glo_ok X G (c.fact 1 (f := .glo "power") rfl)
  obtain ⟨fd_from_binary, F_from_binary⟩ := c.def_ 2 (d := d_from_binary) rfl
  have m_from_binary := He.glo_ok X G (c.fact 2 (f := .glo "from_binary") rfl)
  obtain ⟨fd__worth, F__worth⟩ := c.def_ 3 (d := d__worth) rfl
  have m__worth := He.glo_ok X G (c.fact 3 (f := .glo "_worth") rfl)
  obtain ⟨fd_half, F_half⟩ := c.def_ 4 (d := d_half) rfl
  have m_half := He.glo_ok X G (c.fact 4 (f := .glo "half") rfl)
  obtain ⟨fd_single, F_single⟩ := c.def_ 5 (d := d_single) rfl
  have m_single := He.glo_ok X G (c.fact 5 (f := .glo "single") rfl)
  obtain ⟨fd_double, F_double⟩ := c.def_ 6 (d := d_double) rfl
  have m_double := He.glo_ok X G (c.fact 6 (f := .glo "double") rfl)
  obtain ⟨fd__law_cell, F__law_cell⟩ := c.def_ 7 (d := d__law_cell) rfl
  have m__law_cell := He.glo_ok X G (c.fact 7 (f := .glo "_law_cell") rfl)
  obtain ⟨fd__law_numbers, F__law_numbers⟩ := c.def_ 8 (d := d__law_numbers) rfl
  have m__law_numbers := He.glo_ok X G (c.fact 8 (f := .glo "_law_numbers") rfl)
  obtain ⟨fd__law_state, F__law_state⟩ := c.def_ 9 (d := d__law_state) rfl
  have m__law_state := He.glo_ok X G (c.fact 9 (f := .glo "_law_state") rfl)
  obtain ⟨fd__law_next, F__law_next⟩ := c.def_ 10 (d := d__law_next) rfl
  have m__law_next := He.glo_ok X G (c.fact 10 (f := .glo "_law_next") rfl)
  obtain ⟨fd__law_big, F__law_big⟩ := c.def_ 11 (d := d__law_big) rfl
  have m__law_big := He.glo_ok X G (c.fact 11 (f := .glo "_law_big") rfl)
  obtain ⟨fd__law_times, F__law_times⟩ := c.def_ 12 (d := d__law_times) rfl
  have m__law_times := He.glo_ok X G (c.fact 12 (f := .glo "_law_times") rfl)
  obtain ⟨fd__law_right, F__law_right⟩ := c.def_ 13 (d := d__law_right) rfl
  have m__law_right := He.glo_ok X G (c.fact 13 (f := .glo "_law_right") rfl)
  obtain ⟨fd_law, F_law⟩ := c.def_ 14 (d := d_law) rfl
  have m_law := He.glo_ok X G (c.fact 14 (f := .glo "law") rfl)
  have nb : Nm mg := ⟨He.free_ok X G (c.fact 15 (f := .free "divmod") rfl), He.free_ok X G (c.fact 16 (f := .free "len") rfl), He.free_ok X G (c.fact 17 (f := .free "abs") rfl), He.free_ok X G (c.fact 18 (f := .free "range") rfl), He.free_ok X G (c.fact 19 (f := .free "int") rfl), He.free_ok X G (c.fact 20 (f := .free "isinstance") rfl), He.free_ok X G (c.fact 21 (f := .free "tuple") rfl), He.free_ok X G (c.fact 22 (f := .free "bool") rfl), He.free_ok X G (c.fact 23 (f := .free "max") rfl), conI X G (c.fact 24 rfl), conI X G (c.fact 25 rfl)⟩
  have e := hfa.symm.trans m_law
  cases e
  have b := FunD.bindsA (ps := ["script"]) F_law fun _ _ _ _ _ _ us hl => match us, hl with | [_], _ => rfl
  refine ⟨fd_law, fun s v => b s [v] rfl, fun base _ _ => ?_⟩
  have c_normal := ok_normal (P := P) (w := w) (base := base) F_normal m_normal nb
  have c_power := ok_power (P := P) (w := w) (base := base) F_power m_power nb
  have c_from_binary := ok_from_binary (P := P) (w := w) (base := base) F_from_binary m_from_binary nb c_normal c_power
  have c__worth := ok__worth (P := P) (w := w) (base := base) F__worth m__worth nb c_from_binary
  have c_half := ok_half (P := P) (w := w) (base := base) F_half m_half nb c__worth
  have c_single := ok_single (P := P) (w := w) (base := base) F_single m_single nb c__worth
  have c_double := ok_double (P := P) (w := w) (base := base) F_double m_double nb c__worth
  have c__law_cell := ok__law_cell (P := P) (w := w) (base := base) F__law_cell m__law_cell nb
  have c__law_numbers := ok__law_numbers (P := P) (w := w) (base := base) F__law_numbers m__law_numbers nb
  have c__law_state := ok__law_state (P := P) (w := w) (base := base) F__law_state m__law_state nb c__law_cell c__law_numbers
  have c__law_next := ok__law_next (P := P) (w := w) (base := base) F__law_next m__law_next nb
  have c__law_big := ok__law_big (P := P) (w := w) (base := base) F__law_big m__law_big nb c__law_cell c__law_next
  have c__law_times := ok__law_times (P := P) (w := w) (base := base) F__law_times m__law_times nb
  have c__law_right := ok__law_right (P := P) (w := w) (base := base) F__law_right m__law_right nb c__law_times
  exact ok_law F_law nb c_half c_single c_double c__law_state c__law_next c__law_big c__law_times c__law_right
end Fa
open PySem PySem.W PySem.Calls PyProof.Rows
theorem PySem.Challenge.cw_formsalike_k04_floats_holds : PySem.Challenge.rw_formsalike_k04_floats.Holds := by
  w_on; o_law
  refine HandSHeadRun.head_any (r := OpenLaw.row PySem.Challenge.rw_formsalike_k04_floats) (q := view (OpenLaw.row PySem.Challenge.rw_formsalike_k04_floats).prog [19]) (H := Fa.hk) (ob := Fa.ob) (M := 3000) (loose := Fa.loose) (d := HandSHeadRun.topDef (OpenLaw.row PySem.Challenge.rw_formsalike_k04_floats).prog 19) (kwd := []) Fa.ob_eq
    (by kernel_rfl) (fun s => by kernel_rfl) Fa.run (by kernel_rfl) (by kernel_rfl) (by kernel_rfl) (by rfl) (by first | assumption | decide +kernel) (by decide +kernel) ⟨rfl, rfl, rfl, rfl, rfl, by decide +kernel⟩ ?hw ?hc
  case hw => w_witness2
  case hc =>
    refine L2.walk_ofE (l := PySem.Challenge.rw_formsalike_k04_floats) (n := 63) (k := 5) (x := "script") (CX := L2.CX0) rfl (by decide) (by kernel_rfl) ⟨rfl, by decide, by decide⟩ ?F (fun _ _ _ _ z => z)
    intro w mg fa h Y G hmg0
    obtain ⟨K, KX, c⟩ := Y
    have hmg : mg ("law" : PySem.Str) = some (.ref fa) := by
      have e : (HandSHeadRun.topDef (OpenLaw.row PySem.Challenge.rw_formsalike_k04_floats).prog 19).name = ("law" : PySem.Str) := by kernel_rfl
      rw [← e]
      exact hmg0
    obtain ⟨fd, hb, hF⟩ := Fa.facts (P := (PySem.Challenge.rw_formsalike_k04_floats).prog) (w := w) KX G hmg c
    exact ⟨K, fd, Fa.sp_law K, KX, hb, fun H a ns hl _ hS => ⟨_, rfl, a, ns, rfl, hS, fun _ => rfl⟩, hF⟩
