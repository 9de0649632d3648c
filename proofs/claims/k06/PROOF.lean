import PyProof.Rows.All
import Wide.All
import OpenK.AllK
import Wide.FinOn
import KE.KStateDown
import KE.GoesMore
import KE.GoesEnum
import HandS.Iter
import HandS.TupLe
import KE.KEqSeq
import KE.KEqDeep
import HandS.ForMost
import HandS.Exc
import HandS.More
import HandS.Wide
import HandS.Property
import HandS.WideBits
import HandS.Conv
import HandS.Codes
import HandS.IsInst
import HandS.Flow
import HandS.Defaults
import HandS.EndBits
import HandS.Head0
import HandS.Head1
import HandS.Head2
import HandS.HeadEnd
import HandS.HeadHook1
import HandS.HeadHook2
import PySem.Challenge.RW_formsalike_k06_utf8_there_and_back
set_option Elab.async false
set_option linter.all false
set_option maxRecDepth 100000
set_option maxHeartbeats 4000000
namespace Fa
open PySem PySem.Spec L2 SX
open PyProof.Rows (envOfC)
open C8 (Cal pe_c Mak pe_mk Met pe_mt pe_mt0 pe_gc tCut pss_cut)
def top (i : Nat) : Stmt := PySem.Challenge.pw_formsalike_k06_utf8_there_and_back.main.body.getD i (.Pass ⟨0, 0, 0, 0⟩)

/-! ### readings, a step each -/
section
variable {σ : St} {H : Hp} {n b c : St → Hp → Prop} {r : VK} {Q : VK} {K : PySem.W.Frag}
theorem r_seq {t u : TS} (h : t ⟨u ⟨n, r, b, c⟩, r, b, c⟩ σ H) : tSeq t u ⟨n, r, b, c⟩ σ H := h
theorem r_asg {te : TE} {g : TG} (h : te σ H fun x H1 => g x σ H1 n) : tAsg te g ⟨n, r, b, c⟩ σ H := h
theorem r_name {i : Nat} {v : V} {R : St → Hp → Prop} (h : R (σ.set i (some v)) H) : gName i v σ H R := h
theorem r_var {i : Nat} {v : V} (e : σ[i]? = some (some v)) (h : Q v H) : tVar i σ H Q := ⟨v, e, h⟩
theorem r_c {v : V} (h : Q v H) : tC v σ H Q := h
theorem r_op {r : R2} {ta tb : TE} (h : ta σ H fun x H1 => tb σ H1 fun y H2 => r x y H2 Q) : tOp r ta tb σ H Q := h
theorem r_un {r : V → Hp → VK → Prop} {ta : TE} (h : ta σ H fun x H1 => r x H1 Q) : tUn r ta σ H Q := h
theorem r_I0 {g : Int → Int → V} {i j : Int} (h : Q (g i j) H) : rI0 g (.int i) (.int j) H Q := ⟨i, j, rfl, rfl, h⟩
theorem r_I {C : Int → Int → Prop} {g : Int → Int → V} {i j : Int} (c : C i j) (h : Q (g i j) H) : rI C g (.int i) (.int j) H Q := ⟨i, j, rfl, rfl, c, h⟩
theorem r_U {g : Int → V} {i : Int} (h : Q (g i) H) : rU g (.int i) H Q := ⟨i, rfl, h⟩
theorem r_eqI {i j : Int} (h : Q (.bl (decide (i = j))) H) : rEq (.int i) (.int j) H Q := by
  have e : decide (V.int i = V.int j) = decide (i = j) := by simp
  exact ⟨rfl, by rw [e]; exact h⟩
theorem r_neI {i j : Int} (h : Q (.bl (!decide (i = j))) H) : rNe (.int i) (.int j) H Q := by
  have e : decide (V.int i = V.int j) = decide (i = j) := by simp
  exact ⟨rfl, by rw [e]; exact h⟩
theorem r_eqS {i j : Str} (h : Q (.bl (decide (i = j))) H) : rEq (.str i) (.str j) H Q := by
  have e : decide (V.str i = V.str j) = decide (i = j) := by simp
  exact ⟨rfl, by rw [e]; exact h⟩
theorem r_neS {i j : Str} (h : Q (.bl (!decide (i = j))) H) : rNe (.str i) (.str j) H Q := by
  have e : decide (V.str i = V.str j) = decide (i = j) := by simp
  exact ⟨rfl, by rw [e]; exact h⟩
theorem r_nil {R : List V → Hp → Prop} (h : R [] H) : tNil σ H R := h
theorem r_cons {te : TE} {t : TA} {R : List V → Hp → Prop} (h : te σ H fun x H1 => t σ H1 fun xs H2 => R (x :: xs) H2) : tCons te t σ H R := h
theorem r_drop {te : TE} (h : te σ H fun _ H1 => n σ H1) : tDrop te ⟨n, r, b, c⟩ σ H := h
theorem r_ret {te : TE} (h : te σ H r) : tRet te ⟨n, r, b, c⟩ σ H := h
theorem r_retN (h : r .non H) : tRetN ⟨n, r, b, c⟩ σ H := h
theorem r_next (h : n σ H) : tNext ⟨n, r, b, c⟩ σ H := h
theorem r_brk (h : b σ H) : tBreak ⟨n, r, b, c⟩ σ H := h
theorem r_if {e : TT} {t u : TS} (h : e σ H fun k H1 => if k = true then t ⟨n, r, b, c⟩ σ H1 else u ⟨n, r, b, c⟩ σ H1) : tIfS e t u ⟨n, r, b, c⟩ σ H := h
theorem r_ifE {c : TT} {ta tb : TE} (h : c σ H fun b H1 => if b = true then ta σ H1 Q else tb σ H1 Q) : tIf c ta tb σ H Q := h
theorem r_test {te : TE} {R : Bool → Hp → Prop} (h : te σ H fun x H' => ∃ k, x = .bl k ∧ R k H') : tTest te σ H R := h
theorem r_B {te : TE} {R : Bool → Hp → Prop} (h : te σ H fun x H' => ∃ k, x = .bl k ∧ R k H') : tB te σ H R := h
theorem r_bl {b : Bool} {R : Bool → Prop} (h : R b) : ∃ k, V.bl b = .bl k ∧ R k := ⟨b, rfl, h⟩
theorem r_and {t u : TT} {R : Bool → Hp → Prop} (h : t σ H fun c H1 => if c = true then u σ H1 R else R false H1) : tAnd t u σ H R := h
theorem r_or {t u : TT} {R : Bool → Hp → Prop} (h : t σ H fun c H1 => if c = true then R true H1 else u σ H1 R) : tOr t u σ H R := h
theorem r_not {t : TT} {R : Bool → Hp → Prop} (h : t σ H fun c H1 => R (!c) H1) : tNot t σ H R := h
theorem r_andV {ta tb : TE} (h : ta σ H fun x H1 => ∃ c, x = .bl c ∧ if c = true then tb σ H1 Q else Q (.bl false) H1) : tAndV ta tb σ H Q := h
theorem r_orV {ta tb : TE} (h : ta σ H fun x H1 => ∃ c, x = .bl c ∧ if c = true then Q (.bl true) H1 else tb σ H1 Q) : tOrV ta tb σ H Q := h
theorem r_notV {ta : TE} (h : ta σ H fun x H1 => ∃ c, x = .bl c ∧ Q (.bl (!c)) H1) : tNotV ta σ H Q := h
theorem r_chain {r r' : R2} {ta tb tc : TE} (h : ta σ H fun x H1 => tb σ H1 fun y H2 => r x y H2 fun z H3 => ∃ k, z = .bl k ∧ (if k = true then tc σ H3 fun w' H4 => r' y w' H4 Q else Q (.bl false) H3)) : tChain r r' ta tb tc σ H Q := h
theorem r_tup {t : TA} (h : t σ H fun xs H1 => xs.length ≤ sizeLine ∧ ∀ p, H1 p = none → Q (.ref p) (upd H1 p (.tup xs))) : tTup t σ H Q := h
theorem r_lst {t : TA} (h : t σ H fun xs H1 => xs.length ≤ sizeLine ∧ ∀ p, H1 p = none → Q (.ref p) (upd H1 p (.lst xs))) : tLst t σ H Q := h
theorem r_call {sp : Sp} {dvs : List V} {E : XK} {t : TA} (h : t σ H fun vs H1 => sp (vs ++ dvs) H1 Q E) : tCall sp dvs E t σ H Q := h
theorem r_CB {r : List V → Hp → VK → Prop} {t : TA} (h : t σ H fun vs H1 => r vs H1 Q) : tCB r t σ H Q := h
theorem r_ixL {p : Addr} {xs : List V} {i : Int} {v : V} (hs : SqL K H p xs) (e : atI xs i = some v) (h : Q v H) : rIxL K (.ref p) (.int i) H Q := ⟨p, xs, i, v, rfl, rfl, hs, e, h⟩
theorem r_ixT {p : Addr} {xs : List V} {i : Int} {v : V} (hs : SqT K H p xs) (e : atI xs i = some v) (h : Q v H) : rIxT K (.ref p) (.int i) H Q := ⟨p, xs, i, v, rfl, rfl, hs, e, h⟩
theorem r_ite {p : Prop} [Decidable p] {A B : Prop} (h1 : p → A) (h2 : ¬ p → B) : if decide p = true then A else B := by
  by_cases c : p
  · rw [if_pos (decide_eq_true c)]
    exact h1 c
  · rw [if_neg (by simp [c])]
    exact h2 c
theorem r_iten {p : Prop} [Decidable p] {A B : Prop} (h1 : ¬ p → A) (h2 : p → B) : if (!decide p) = true then A else B := by
  by_cases c : p
  · rw [if_neg (by simp [c])]
    exact h2 c
  · rw [if_pos (by simp [c])]
    exact h1 c
theorem r_itep {p : Prop} [Decidable p] {A B : Prop} (c : p) (h : A) : if decide p = true then A else B := by
  rw [if_pos (decide_eq_true c)]
  exact h
theorem r_iteN {p : Prop} [Decidable p] {A B : Prop} (c : ¬ p) (h : B) : if decide p = true then A else B := by
  rw [if_neg (by simp [c])]
  exact h
theorem r_iteF {A B : Prop} (h : B) : if false = true then A else B := by
  rw [if_neg Bool.false_ne_true]
  exact h
theorem r_iteT {A B : Prop} (h : A) : if true = true then A else B := by
  rw [if_pos rfl]
  exact h
theorem r_iteNT {A B : Prop} (h : B) : if (!true) = true then A else B := by
  rw [if_neg (by decide)]
  exact h
theorem r_iteNF {A B : Prop} (h : A) : if (!false) = true then A else B := by
  rw [if_pos (by decide)]
  exact h
theorem r_no {p : Prop} [Decidable p] {A B : Prop} (c : p) (h : B) : if (!decide p) = true then A else B := by
  rw [if_neg (by simp [c])]
  exact h
/-- a for over a written range(m) -/
theorem r_forN {v : Int} {g : TG} {tb : TS} (m : Nat) (e : v = (m : Int)) (hn : m < 2 ^ 62) (Pv : Nat → St → Hp → Prop) (h0 : Pv 0 σ H)
    (hs : ∀ (i : Nat) σ H, i < m → Pv i σ H → g (.int (i : Int)) σ H fun σ2 H2 => tb ⟨Pv (i + 1), r, n, Pv (i + 1)⟩ σ2 H2) (hd : ∀ σ H, Pv m σ H → n σ H) : tFor (iRng1 (tCons (tC (.int v)) tNil)) g tb ⟨n, r, b, c⟩ σ H := by
  subst e
  refine ⟨(m : Int), rfl, by omega, by omega, for_range Pv h0 (fun i σ H hi p => ?_) hd⟩
  rw [Int.zero_add]
  exact hs i σ H (by omega) p
/-- a for over range(v), v in a slot -/
theorem r_forV {v : Int} {k : Nat} {g : TG} {tb : TS} (e : σ[k]? = some (some (.int v))) (h1 : -(2 ^ 62) ≤ v) (h2 : v < 2 ^ 62) (Pv : Nat → St → Hp → Prop) (h0 : Pv 0 σ H)
    (hs : ∀ (i : Nat) σ H, (i : Int) < v → Pv i σ H → g (.int (i : Int)) σ H fun σ2 H2 => tb ⟨Pv (i + 1), r, n, Pv (i + 1)⟩ σ2 H2) (hd : ∀ σ H, Pv v.toNat σ H → n σ H) : tFor (iRng1 (tCons (tVar k) tNil)) g tb ⟨n, r, b, c⟩ σ H := by
  refine ⟨_, e, v, rfl, h1, h2, for_range Pv h0 (fun i σ H hi p => ?_) hd⟩
  rw [Int.zero_add]
  exact hs i σ H (by omega) p
/-- a for over range(e), the turns behind its reading -/
theorem r_for {wi : TI} {g : TG} {tb : TS} (h : wi σ H fun J H1 => ∃ W : Nat → Nat → St → Hp → Prop, (∃ m, W 0 m σ H1) ∧ ∀ i m σ H, W i m σ H →
    (J.stop i H ∧ n σ H) ∨ (J.go i H ∧ ∃ N : St → Hp → Prop, (∀ σ' H', N σ' H' → ∃ m', m' < m ∧ W (i + 1) m' σ' H') ∧ ∀ x H', J.yld i H x H' → g x σ H' fun σ2 H2 => tb ⟨N, r, n, N⟩ σ2 H2)) : tFor wi g tb ⟨n, r, b, c⟩ σ H := h
theorem r_rng1 {ta : TA} {R : It → Hp → Prop} (h : ta σ H fun vs H1 => ∃ j : Int, vs = [.int j] ∧ -(2 ^ 62) ≤ j ∧ j < 2 ^ 62 ∧ R (Itr 0 j.toNat) H1) : iRng1 ta σ H R := h
/-- .. the turns -/
theorem r_turns {j : Int} {g : TG} {tb : TS} (h1 : -(2 ^ 62) ≤ j) (h2 : j < 2 ^ 62) (Pv : Nat → St → Hp → Prop) (h0 : Pv 0 σ H)
    (hs : ∀ (i : Nat) σ H, (i : Int) < j → Pv i σ H → g (.int (i : Int)) σ H fun σ2 H2 => tb ⟨Pv (i + 1), r, n, Pv (i + 1)⟩ σ2 H2) (hd : ∀ σ H, Pv j.toNat σ H → n σ H) :
    -(2 ^ 62) ≤ j ∧ j < 2 ^ 62 ∧ ∃ W : Nat → Nat → St → Hp → Prop, (∃ m, W 0 m σ H) ∧ ∀ i m σ H, W i m σ H →
    ((Itr 0 j.toNat).stop i H ∧ n σ H) ∨ ((Itr 0 j.toNat).go i H ∧ ∃ N : St → Hp → Prop, (∀ σ' H', N σ' H' → ∃ m', m' < m ∧ W (i + 1) m' σ' H') ∧ ∀ x H', (Itr 0 j.toNat).yld i H x H' → g x σ H' fun σ2 H2 => tb ⟨N, r, n, N⟩ σ2 H2) := by
  refine ⟨h1, h2, for_range (D := ⟨n, r, fun _ _ => False, fun _ _ => False⟩) Pv h0 (fun i σ H hi p => ?_) hd⟩
  rw [Int.zero_add]
  exact hs i σ H (by omega) p
theorem r_while {e : TT} {tb : TS} (W : Nat → St → Hp → Prop) (m : Nat) (h0 : W m σ H)
    (hs : ∀ m σ H, W m σ H → e σ H fun k H1 => if k = true then ∃ N : St → Hp → Prop, (∀ σ' H', N σ' H' → ∃ m', m' < m ∧ W m' σ' H') ∧ tb ⟨N, r, n, N⟩ σ H1 else n σ H1) : tWhile e tb ⟨n, r, b, c⟩ σ H := ⟨W, ⟨m, h0⟩, hs⟩
theorem r_turn {tb : TS} {W : Nat → St → Hp → Prop} {m : Nat} (h : tb ⟨fun σ' H' => ∃ m', m' < m ∧ W m' σ' H', r, n, fun σ' H' => ∃ m', m' < m ∧ W m' σ' H'⟩ σ H) :
    ∃ N : St → Hp → Prop, (∀ σ' H', N σ' H' → ∃ m', m' < m ∧ W m' σ' H') ∧ tb ⟨N, r, n, N⟩ σ H := ⟨_, fun _ _ h => h, h⟩
end
/-! ### promises by the number of arguments -/
def sp1 (f : V → Hp → VK → XK → Prop) : Sp := fun vs H Q E => ∃ a, vs = [a] ∧ f a H Q E
def sp2 (f : V → V → Hp → VK → XK → Prop) : Sp := fun vs H Q E => ∃ a b, vs = [a, b] ∧ f a b H Q E
def sp3 (f : V → V → V → Hp → VK → XK → Prop) : Sp := fun vs H Q E => ∃ a b c, vs = [a, b, c] ∧ f a b c H Q E
def sp4 (f : V → V → V → V → Hp → VK → XK → Prop) : Sp := fun vs H Q E => ∃ a b c d, vs = [a, b, c, d] ∧ f a b c d H Q E
def sp5 (f : V → V → V → V → V → Hp → VK → XK → Prop) : Sp := fun vs H Q E => ∃ a b c d e, vs = [a, b, c, d, e] ∧ f a b c d e H Q E
def sp6 (f : V → V → V → V → V → V → Hp → VK → XK → Prop) : Sp := fun vs H Q E => ∃ a b c d e g, vs = [a, b, c, d, e, g] ∧ f a b c d e g H Q E
theorem len5 {f} (vs : List V) (H : Hp) (Q : VK) (E : XK) (h : sp5 f vs H Q E) : vs.length = 5 := by
  obtain ⟨_, _, _, _, _, rfl, _⟩ := h
  rfl
theorem len6 {f} (vs : List V) (H : Hp) (Q : VK) (E : XK) (h : sp6 f vs H Q E) : vs.length = 6 := by
  obtain ⟨_, _, _, _, _, _, rfl, _⟩ := h
  rfl
theorem len1 {f} (vs : List V) (H : Hp) (Q : VK) (E : XK) (h : sp1 f vs H Q E) : vs.length = 1 := by
  obtain ⟨_, rfl, _⟩ := h
  rfl
theorem len2 {f} (vs : List V) (H : Hp) (Q : VK) (E : XK) (h : sp2 f vs H Q E) : vs.length = 2 := by
  obtain ⟨_, _, rfl, _⟩ := h
  rfl
theorem len3 {f} (vs : List V) (H : Hp) (Q : VK) (E : XK) (h : sp3 f vs H Q E) : vs.length = 3 := by
  obtain ⟨_, _, _, rfl, _⟩ := h
  rfl
theorem len4 {f} (vs : List V) (H : Hp) (Q : VK) (E : XK) (h : sp4 f vs H Q E) : vs.length = 4 := by
  obtain ⟨_, _, _, _, rfl, _⟩ := h
  rfl
/-- a def's promise from its body -/
theorem calD {P : Program} {w : World} {K : PySem.W.Frag} {mg : Str → Option Value} {base : Heap} {x qual : Str} {params : Arguments} {body : List Stmt} {scope : Scope} {f : Addr} {fd : FuncData} {N ps : List Str} {k : Nat} {sp : Sp}
    (F : FunD K x qual params body scope [] [] f fd) (m : mg x = some (.ref f)) (S : FnScope N ps scope)
    (hb : ∀ (kV doc pm : Value) (an : Option Addr) (cdv ct : Value) (us : List Value), us.length = ps.length → bindArgs (PySem.W.fnOf x qual params body scope .none kV doc pm an cdv ct) ⟨us, []⟩ = pure (ps.zip us))
    (len : ∀ vs H Q E, sp vs H Q E → vs.length = ps.length)
    (hbody : ∀ (cdv : Value) (A : Around) (outer : List Env) (s : Shared) (H : Hp) (vs : List V) (Q : VK) (E : XK), Room k (A.deeper (envOfC qual scope s.heap.objs.size f cdv)) → sp vs H Q E →
      ∃ t, PSs (cxOf CX0 P w K mg base N qual scope f cdv A outer s H E).nox body t ∧ t { nx := fun _ H' => Q .non H', rt := Q } (start N vs) H) : Cal P w K mg base (k + 1) x sp [] :=
  ⟨f, fd, ps, [], F.ok S len fun cdv A outer s H vs Q E hr h => by
    obtain ⟨t, h1, h2⟩ := hbody cdv A outer s H vs Q E hr h
    exact ⟨t, h1.nox, h2⟩, m, F.kp, F.bindsN hb, .nil⟩
theorem fnD {P : Program} {w : World} {K : PySem.W.Frag} {mg : Str → Option Value} {base : Heap} {x qual : Str} {params : Arguments} {body : List Stmt} {scope : Scope} {f : Addr} {fd : FuncData} {N ps : List Str} {k : Nat} {sp : Sp}
    (F : FunD K x qual params body scope [] [] f fd) (S : FnScope N ps scope) (len : ∀ vs H Q E, sp vs H Q E → vs.length = ps.length)
    (hbody : ∀ (cdv : Value) (A : Around) (outer : List Env) (s : Shared) (H : Hp) (vs : List V) (Q : VK) (E : XK), Room k (A.deeper (envOfC qual scope s.heap.objs.size f cdv)) → sp vs H Q E →
      ∃ t, PSs (cxOf CX0 P w K mg base N qual scope f cdv A outer s H E).nox body t ∧ t { nx := fun _ H' => Q .non H', rt := Q } (start N vs) H) : FnOk P w K mg base CX0 (k + 1) f fd ps sp :=
  F.ok S len fun cdv A outer s H vs Q E hr h => by
    obtain ⟨t, h1, h2⟩ := hbody cdv A outer s H vs Q E hr h
    exact ⟨t, h1.nox, h2⟩
theorem conI {K : PySem.W.Frag} {h : Heap} {mg : Str → Option Value} {x : Str} {i : Int} (X : K.In h) (G : h.Ns mainGlobals mg) (c : (He.Fa.int x i).ok K = true) : ∃ u, mg x = some u ∧ RelV (.int i) u := by
  obtain ⟨t, e⟩ := He.int_ok X G c
  exact ⟨_, e, t, rfl⟩
theorem conS {K : PySem.W.Frag} {h : Heap} {mg : Str → Option Value} {x z : Str} (X : K.In h) (G : h.Ns mainGlobals mg) (c : (He.Fa.str x z).ok K = true) : ∃ u, mg x = some u ∧ RelV (.str z) u := by
  obtain ⟨t, e⟩ := He.str_ok X G c
  exact ⟨_, e, t, rfl⟩

/-! ### more readings -/
section
variable {σ : St} {H : Hp} {n b c : St → Hp → Prop} {r : VK} {Q : VK}
theorem r_cut {t u : TS} (Mid : St → Hp → Prop) (h1 : t ⟨Mid, r, b, c⟩ σ H) (h2 : ∀ σ' H', Mid σ' H' → u ⟨n, r, b, c⟩ σ' H') : tCut t u ⟨n, r, b, c⟩ σ H := ⟨Mid, h1, h2⟩
end
section
variable {σ : St} {H : Hp} {Q : VK} {K : PySem.W.Frag}
theorem r_yes {R : Bool → Hp → Prop} (h : R true H) : tYes σ H R := h
theorem r_isi {x : V} {c d : String} {b : Bool} (t : TyX K H x (.type d)) (e : kitB d c = some b) (h : Q (.bl b) H) : rIsi K [x, .ty c] H Q := ⟨x, .ty c, .type d, .type c, b, rfl, .ty c, t, kit_ty e, h⟩
theorem r_neD {x y : V} {d e : PyData} (h1 : Dp K H x d) (h2 : Dp K H y e) (s1 : SeqAt.shaped d = true) (s2 : SeqAt.shaped e = true) (h : Q (.bl (!PyData.eqv d e)) H) : rNeD K x y H Q := ⟨d, e, h1, h2, s1, s2, h⟩
theorem r_eqD {x y : V} {d e : PyData} (h1 : Dp K H x d) (h2 : Dp K H y e) (s1 : SeqAt.shaped d = true) (s2 : SeqAt.shaped e = true) (h : Q (.bl (PyData.eqv d e)) H) : rEqD K x y H Q := ⟨d, e, h1, h2, s1, s2, h⟩
theorem eqv_same {d : PyData} (s : SeqAt.shaped d = true) : PyData.eqv d d = true := SeqAt.eqv_refl d (Bool.and_eq_true_iff.mp s).1
/-- the same data on both sides -/
theorem r_neDs {x y : V} {d : PyData} (h1 : Dp K H x d) (h2 : Dp K H y d) (s : SeqAt.shaped d = true) (h : Q (.bl false) H) : rNeD K x y H Q := r_neD h1 h2 s s (by rw [eqv_same s]; exact h)
theorem r_eqDs {x y : V} {d : PyData} (h1 : Dp K H x d) (h2 : Dp K H y d) (s : SeqAt.shaped d = true) (h : Q (.bl true) H) : rEqD K x y H Q := r_eqD h1 h2 s s (by rw [eqv_same s]; exact h)
theorem r_rfl {v : V} {B : Prop} (h : B) : v = v ∧ B := ⟨rfl, h⟩
theorem r_gtup {p : Addr} {xs : List V} {n : Nat} {t : TGs} {R : St → Hp → Prop} (hs : SqT K H p xs) (hl : xs.length = n) (h : t xs σ H R) : gTup K n t (.ref p) σ H R := ⟨p, xs, rfl, hs, hl, h⟩
theorem r_gcons {t : TG} {u : TGs} {v : V} {vs : List V} {R : St → Hp → Prop} (h : t v σ H fun σ' H' => u vs σ' H' R) : gCons t u (v :: vs) σ H R := ⟨v, vs, rfl, h⟩
theorem r_gnil {R : St → Hp → Prop} (h : R σ H) : gNil [] σ H R := ⟨rfl, h⟩
theorem r_iteC {p : Prop} [Decidable p] {a b : Int} (h : Q (.int (if p then a else b)) H) : if decide p = true then tC (.int a) σ H Q else tC (.int b) σ H Q := by
  by_cases c : p
  · rw [if_pos (decide_eq_true c)]
    rw [if_pos c] at h
    exact h
  · rw [if_neg (by simp [c])]
    rw [if_neg c] at h
    exact h
theorem r_iteJ {p : Prop} [Decidable p] {ta tb : TE} (v : V) (h1 : p → ∀ R : VK, R v H → ta σ H R) (h2 : ¬ p → ∀ R : VK, R v H → tb σ H R) (h : Q v H) : if decide p = true then ta σ H Q else tb σ H Q := by
  by_cases c : p
  · rw [if_pos (decide_eq_true c)]
    exact h1 c Q h
  · rw [if_neg (by simp [c])]
    exact h2 c Q h
theorem r_max2 {p : Addr} {x y : Int} (hs : H p = some (.lst [.int x, .int y])) (h : Q (.int (max x y)) H) : rMax K [.ref p] H Q := by
  refine ⟨p, [x, y], rfl, SqL.of hs, by show 0 < 2; decide, fun m hm hle => ?_⟩
  have h1 := hle x (by simp)
  have h2 := hle y (by simp)
  have e : m = max x y := by
    rcases List.mem_cons.mp hm with e | e
    · omega
    · rcases List.mem_cons.mp e with e | e
      · omega
      · cases e
  rw [e]
  exact h
theorem r_lam1 {x : V} {R : V → Prop} (h : R x) : ∃ i, [x] = [i] ∧ R i := ⟨x, rfl, h⟩
theorem r_abs {x : Int} {R : Int → Prop} (h : R x) : ∃ i, [V.int x] = [V.int i] ∧ R i := ⟨x, rfl, h⟩
theorem r_int1 {x : Int} {R : Int → Prop} {B : Prop} (h : R x) : (∃ i, [V.int x] = [V.int i] ∧ R i) ∨ B := .inl ⟨x, rfl, h⟩
theorem r_bm {T : String} {r : V → List V → Hp → VK → Prop} {to : TE} {t : TA} (h : to σ H fun x H1 => tyV K T x H1 ∧ t σ H1 fun xs H2 => r x xs H2 Q) : tBM K T r to t σ H Q := h
theorem r_bm0 {T : String} {r : V → List V → Hp → VK → Prop} {to : TE} (h : to σ H fun x H1 => tyV K T x H1 ∧ r x [] H1 Q) : tBM0 K T r to σ H Q := h
theorem tyL {p : Addr} {xs : List V} (h : H p = some (.lst xs)) : tyV K "list" (.ref p) H := Or.inl ⟨rfl, _, SqL.of h⟩
theorem r_app {p : Addr} {xs : List V} {y : V} (h : H p = some (.lst xs)) (hl : xs.length < sizeLine) (q : Q .non (upd H p (.lst (xs ++ [y])))) : rAppend (.ref p) [y] H Q := ⟨p, xs, y, rfl, rfl, h, hl, q⟩
theorem r_sub {to ti : TE} {t : TSet} {v : V} {R : St → Hp → Prop} (h : to σ H fun o H1 => ti σ H1 fun i H2 => t o i v H2 fun H3 => R σ H3) : gSub to ti t v σ H R := h
theorem r_setL {p : Addr} {xs : List V} {k : Int} {j : Nat} {v : V} {R : Hp → Prop} (h : H p = some (.lst xs)) (e : ixN xs.length k = some j) (q : R (upd H p (.lst (xs.set j v)))) : rSetL (.ref p) (.int k) v H R := ⟨p, xs, k, j, rfl, rfl, h, e, q⟩
theorem r_lcR {ta : TA} {g : TG} {tt : TT} {te : TE} {vs : List Nat} (n : Nat) (hn : n < 2 ^ 62)
    (h : ∀ D, H D = none → ∃ W : Nat → Nat → Hp → Prop, (∃ m, W 0 m (upd H D (.lst []))) ∧ ∀ i m H, W i m H →
      ((Itr 0 n).stop i H ∧ Q (.ref D) H) ∨ ((Itr 0 n).go i H ∧ ∃ Nx : Hp → Prop, (∀ H', Nx H' → ∃ m', m' < m ∧ W (i + 1) m' H') ∧ ∀ x H', (Itr 0 n).yld i H x H' → g x (wipe σ vs) H' fun σ2 H2 => wipe σ2 vs = wipe σ vs ∧ tt σ2 H2 fun b H3 =>
        if b = true then te σ2 H3 fun y H4 => ∃ acc, H4 D = some (.lst acc) ∧ acc.length < sizeLine ∧ Nx (upd H4 D (.lst (acc ++ [y]))) else Nx H3))
    (he : ∀ R : List V → Hp → Prop, R [.int (n : Int)] H → ta σ H R) : tLc (iRng1 ta) g tt te vs σ H Q := by
  refine he _ ⟨(n : Int), rfl, by omega, by omega, ?_⟩
  have e : ((n : Int)).toNat = n := by omega
  rw [e]
  exact h
theorem same_upd {H : Hp} {p : Addr} (h : H p = none) (o : HO) : Same H (upd H p o) := fun b u q => by
  rw [upd_ne (ne_of_none q h)]
  exact q
theorem seq_upd {p b : Addr} {xs : List V} {o : HO} (h : SqL K H b xs) (hn : b ≠ p) : SqL K (upd H p o) b xs := by
  rcases h with (h | ⟨u, h⟩) | h
  · exact .inl (.inl ((upd_ne hn).trans h))
  · exact .inl (.inr ⟨u, (upd_ne hn).trans h⟩)
  · exact .inr h
theorem atI_ints {ns : List Int} {k : Int} (h0 : 0 ≤ k) (h1 : k < (ns.length : Int)) : ∃ v, v ∈ ns ∧ atI (ns.map V.int) k = some (.int v) := by
  have hk : k.toNat < ns.length := by omega
  have ek : k = ((k.toNat : Nat) : Int) := by omega
  have q : atI (ns.map V.int) ((k.toNat : Nat) : Int) = some (.int ns[k.toNat]) := atI_nat (by rw [List.getElem?_map, List.getElem?_eq_getElem hk] <;> rfl)
  rw [← ek] at q
  exact ⟨ns[k.toNat], List.getElem_mem hk, q⟩
end

/-! ### what the program's top leaves, looked at: its defs by their addresses, facts, written data; the statics too -/
abbrev Frg := PySem.W.Frag
/-- the getter of a property of a class -/
def prAd (C f : Str) (K : Frg) : Addr := match PySem.W.recIn K (He.ma K (He.ga K C) f) "property" with
  | some (.ref g :: _) => g
  | _ => 0
def glAd (x : Str) (K : Frg) : Addr := He.ga K x
def meAd (C m : Str) (K : Frg) : Addr := He.ma K (He.ga K C) m
structure DefM where
  ad : Frg → Addr
  nm : Str
  ql : Str
  pa : Arguments
  bo : List Stmt
  sc : Scope
  df : List He.Dv := []
def seeM (K : Frg) (d : DefM) : He.FnW := match K.lookup (d.ad K) with
  | some ⟨_, _, .func u, _⟩ => some (u.name, u.qualname, u.params, u.body, u.scope, u.globals, u.closure, u.builtins)
  | _ => none
def dueM (d : DefM) : He.FnW := some (d.nm, d.ql, d.pa, .stmts d.bo, d.sc, mainGlobals, [], builtinsNs)
def okM (K : Frg) (d : DefM) : Bool := PySem.W.keepIn K (.ref (d.ad K)) && (match K.lookup (d.ad K) with
  | some ⟨_, _, .func u, _⟩ => PySem.W.codeIn K u.code d.ql && He.dflB K u.defaults (d.df.map (He.Dv.v K))
  | _ => false)
theorem both {a b : Bool} (h : (a && b) = true) : a = true ∧ b = true := Bool.and_eq_true_iff.mp h
theorem funM {K : Frg} {d : DefM} (e : seeM K d = dueM d) (c : okM K d = true) : ∃ fd, FunD K d.nm d.ql d.pa d.bo d.sc (d.df.map (He.Dv.v K)) [] (d.ad K) fd := by
  have kp := (both c).1
  have c2 := (both c).2
  unfold seeM dueM at e
  split at c2
  · rename_i x1 x2 u x3 hL
    rw [hL] at e
    obtain ⟨n1, n2, n3, n4, n5, n6, n7, n8, n9, n10, n11, n12, n13, n14, n15⟩ := u
    simp only [Option.some.injEq, Prod.mk.injEq] at e
    obtain ⟨h1, h2, h3, h4, h5, h6, h7, h8⟩ := e
    subst h1 h2 h3 h4 h5 h6 h7 h8
    have k := both c2
    exact ⟨_, ⟨x1, x2, n8, n9, n10, n11, n12, n13, n14, x3, rfl, hL, k.1, He.dflB_ok k.2, .inl rfl⟩, kp⟩
  · cases c2
/-- written data: none, truths, integers, texts, lists and tuples of them -/
def datB (K : Frg) : Nat → Value → PyData → Bool
  | 0, _, _ => false
  | n + 1, u, d => match u, d with
    | .none, .none => true
    | .bool b, .bool c => b == c
    | .int i _, .int j => decide (i = j)
    | .str x _, .str y => decide (x = y)
    | .ref a, .tuple ds => (match K.lookup a with
      | some ⟨.type c, _, .seq its _, _⟩ => decide (c = "tuple") && (decide (its.size ≤ sizeLine) && datAll (fun u d => datB K n u d) its.toList ds)
      | _ => false)
    | _, _ => false
where datAll (f : Value → PyData → Bool) : List Value → List PyData → Bool
  | [], [] => true
  | u :: us, d :: ds => f u d && datAll f us ds
  | _, _ => false
theorem datAll_ok {K : Frg} {f : Value → PyData → Bool} (hf : ∀ u d, f u d = true → ∃ x, RelV x u ∧ ∀ H, Dp K H x d) : ∀ (us : List Value) (ds : List PyData), datB.datAll f us ds = true → ∃ xs, Vals xs us ∧ ∀ H, DpAll K H xs ds
  | [], [], _ => ⟨[], .nil, fun _ => .nil⟩
  | u :: us, d :: ds, h => by
    unfold datB.datAll at h
    obtain ⟨x, r, k⟩ := hf u d (both h).1
    obtain ⟨xs, rs, ks⟩ := datAll_ok hf us ds (both h).2
    exact ⟨x :: xs, .cons r rs, fun H => .cons (k H) (ks H)⟩
  | [], _ :: _, h => by cases h
  | _ :: _, [], h => by cases h
theorem datB_ok {K : Frg} : ∀ (n : Nat) (u : Value) (d : PyData), datB K n u d = true → ∃ x, RelV x u ∧ ∀ H, Dp K H x d
  | 0, _, _, h => by cases h
  | n + 1, u, d, h => by
    unfold datB at h
    match u, d, h with
    | .none, .none, _ => exact ⟨.non, rfl, fun _ => .non⟩
    | .bool b, .bool c, h =>
      have e : b = c := eq_of_beq h
      subst e
      exact ⟨.bl b, rfl, fun _ => .bl b⟩
    | .int i t, .int j, h =>
      have e : i = j := of_decide_eq_true h
      subst e
      exact ⟨.int i, ⟨t, rfl⟩, fun _ => .int i⟩
    | .str x t, .str y, h =>
      have e : x = y := of_decide_eq_true h
      subst e
      exact ⟨.str x, ⟨t, rfl⟩, fun _ => .str x⟩
    | .ref a, .tuple ds, h =>
      have h' : (match K.lookup a with
        | some ⟨.type c, _, .seq its _, _⟩ => decide (c = "tuple") && (decide (its.size ≤ sizeLine) && datB.datAll (fun u d => datB K n u d) its.toList ds)
        | _ => false) = true := h
      split at h'
      · rename_i c x2 its m x3 hL
        have h1 := (both h').1
        have h2 := (both (both h').2).1
        obtain ⟨xs, rs, ks⟩ := datAll_ok (datB_ok n) its.toList ds (both (both h').2).2
        exact ⟨.ref a, rfl, fun H => .tup (.inr ⟨_, its, m, hL, congrArg Value.type (of_decide_eq_true h1), rfl, of_decide_eq_true h2, rs⟩) (ks H)⟩
      · cases h'
/-- a name of the module that stands for such data -/
def conB (K : Frg) (x : Str) (d : PyData) : Bool := match PySem.W.nsIn K mainGlobals x with
  | some (some u) => datB K 8 u d
  | _ => false
theorem conM {K : Frg} {h : Heap} {mg : Str → Option Value} {x : Str} {d : PyData} (X : K.In h) (G : h.Ns mainGlobals mg) (c : conB K x d = true) : ∃ v u, mg x = some u ∧ RelV v u ∧ ∀ H, Dp K H v d := by
  unfold conB at c
  split at c
  · rename_i u hL
    obtain ⟨v, r, k⟩ := datB_ok 8 u d c
    exact ⟨v, u, PySem.W.mg_of X G hL, r, k⟩
  · cases c
/-- a property of a class -/
def prB (K : Frg) (C f : Str) : Bool := He.eqO (PySem.W.findIn K (.ref (He.ga K C)) f) (some (some (.ref (He.ma K (He.ga K C) f)))) &&
  (He.eqO (PySem.W.specialIn K (.ref (He.ma K (He.ga K C) f)) "__get__") (some (some (.builtin "property.__get__"))) && (decide (PySem.W.takesIn K (.ref (He.ma K (He.ga K C) f)) = some true) &&
  (match PySem.W.recIn K (He.ma K (He.ga K C) f) "property" with
    | some (.ref _ :: _) => true
    | _ => false)))
theorem prM {K : Frg} {C f : Str} (h : prB K C f = true) : PropOf K (He.ga K C) f (He.ma K (He.ga K C) f) (prAd C f K) := by
  obtain ⟨h1, h⟩ := both h
  obtain ⟨h2, h⟩ := both h
  obtain ⟨h3, h4⟩ := both h
  refine ⟨He.eqO_ok h1, He.eqO_ok h2, of_decide_eq_true h3, ?_⟩
  unfold prAd
  split at h4
  · rename_i g r hL
    rw [hL]
    exact ⟨r, rfl⟩
  · cases h4
/-- no limit of digits is set -/
def digB (K : Frg) : Bool := He.eqO (PySem.W.nsIn K cStatics "sys.int_max_str_digits") (some none)
/-! the Hook -/
abbrev AlM : Type := Bool × List He.FnW
def frM (n : Nat) (g : Addr → Option Obj) : Frg := He.frG g (cStatics :: He.asD g n)
def obsM (fa : List He.Fa) (ex : Frg → Bool) (fn : List DefM) (K : Frg) : AlM := ((fa.all fun x => x.ok K) && (ex K && fn.all fun d => okM K d), fn.map fun d => seeM K d)
def valM (fn : List DefM) : AlM := (true, fn.map dueM)
def SaysM (fa : List He.Fa) (ex : Frg → Bool) (fn : List DefM) (K : Frg) : Prop := obsM fa ex fn K = valM fn
def hookM (n : Nat) (fa : List He.Fa) (ex : Frg → Bool) (fn : List DefM) : PySem.W.Hook where
  α := AlM
  obs := fun s => obsM fa ex fn (frM n s.heap.get?)
  val := fun _ => valM fn
  says := fun _ h => ∃ K : Frg, K.In h ∧ SaysM fa ex fn K
  of := fun _ _ e => ⟨_, He.frG_in, e⟩
  keeps := fun _ _ _ ⟨K, hK, c⟩ k => ⟨K, PySem.W.Frag.In.keeps hK k, c⟩
theorem obsM_eq {n : Nat} {fa : List He.Fa} {ex : Frg → Bool} {fn : List DefM} {g : Addr → Option Obj} {s : Shared} (h : ∀ a, g a = s.heap.get? a) : obsM fa ex fn (frM n g) = (hookM n fa ex fn).obs s := by
  have e : g = s.heap.get? := funext h
  subst e
  rfl
section
variable {fa : List He.Fa} {ex : Frg → Bool} {fn : List DefM} {K : Frg}
theorem SaysM.fact (c : SaysM fa ex fn K) (i : Nat) {x : He.Fa} (h : fa[i]? = some x) : x.ok K = true :=
  List.all_eq_true.mp (both (congrArg Prod.fst c : ((fa.all fun x => x.ok K) && (ex K && fn.all fun d => okM K d)) = true)).1 x (List.mem_of_getElem? h)
theorem SaysM.more (c : SaysM fa ex fn K) : ex K = true := (both (both (congrArg Prod.fst c : ((fa.all fun x => x.ok K) && (ex K && fn.all fun d => okM K d)) = true)).2).1
theorem SaysM.def_ (c : SaysM fa ex fn K) (i : Nat) {d : DefM} (h : fn[i]? = some d) : ∃ fd, FunD K d.nm d.ql d.pa d.bo d.sc (d.df.map (He.Dv.v K)) [] (d.ad K) fd := by
  have c2 := (both (both (congrArg Prod.fst c : ((fa.all fun x => x.ok K) && (ex K && fn.all fun d => okM K d)) = true)).2).2
  have e2 : (fn.map fun d => seeM K d)[i]? = (fn.map dueM)[i]? := congrArg (fun z : AlM => z.2[i]?) c
  simp only [List.getElem?_map, h, Option.map_some, Option.some.injEq] at e2
  exact funM e2 (List.all_eq_true.mp c2 d (List.mem_of_getElem? h))
end

/-! ### own classes: made, their fields and methods -/
theorem lk_hit (k : Str) (v : V) (r : List (Str × V)) : List.lookup k ((k, v) :: r) = some v := by simp [List.lookup]
theorem lk_miss {k a : Str} {v : V} {r : List (Str × V)} (h : (a == k) = false) : List.lookup a ((k, v) :: r) = List.lookup a r := by
  show (match a == k with
    | true => some v
    | false => List.lookup a r) = _
  rw [h]
theorem pf_nil (k : Str) (v : V) : putF k v [] = [(k, v)] := rfl
theorem pf_hit (k : Str) (v x : V) (r : List (Str × V)) : putF k v ((k, x) :: r) = (k, v) :: r := if_pos rfl
theorem pf_miss {k g : Str} {v x : V} {r : List (Str × V)} (h : ¬ g = k) : putF k v ((g, x) :: r) = (g, x) :: putF k v r := if_neg h
section
variable {X : Cx} {k j : Nat} {C : Addr} {x m : Str} {sp : Sp} {dvs : List V} {p pos apos : Pos} {e o : Expr} {es : List Expr} {ta : TE} {t : TA}
theorem pe_mk0 (c : Mak X.prog X.w X.K X.mg X.base k x C sp dvs) (hr : Room j X.A) (hk : k + 1 ≤ j) (hg : Gl X x) (hdb : (x == ("__debug__" : Str)) = false := by decide) : PE X (.Call (.Name x p) [] [] pos) (tMake C sp dvs C8.E0 tNil) := by
  obtain ⟨_, _, _, _, M, F, hm, b, d⟩ := c.ex
  exact pe_make0 M F (hr.mono hk) hg hm b d pass0 hdb
/-- a property of the class at C -/
structure Prp (P : Program) (w : World) (K : Frg) (mg : Str → Option Value) (base : Heap) (k : Nat) (C : Addr) (f : Str) (sp : Sp) : Prop where
  ex : ∃ (q g : Addr) (fd : FuncData) (ps : List Str), Cls K C ∧ PropOf K C f q g ∧ FnOk P w K mg base CX0 k g fd ps sp ∧ Binds K fd ps []
theorem pe_pr {f : Str} (c : Prp X.prog X.w X.K X.mg X.base k C f sp) (hr : Room j X.A) (hk : k + 1 ≤ j) (he : PE X o ta) (hab : attributeBase o f X.env (eval o X.env) = eval o X.env := by rfl) : PE X (.Attribute o f pos) (tProp C sp [] C8.E0 ta) := by
  obtain ⟨_, _, _, _, cl, q, F, b⟩ := c.ex
  exact pe_prop he cl q F (hr.mono hk) b .nil pass0 hab
end
section
variable {P : Program} {w : World} {K : Frg} {mg : Str → Option Value} {base : Heap} {x qual : Str} {params : Arguments} {body : List Stmt} {scope : Scope} {f : Addr} {fd : FuncData} {N ps : List Str} {k : Nat} {sp : Sp} {C : Addr}
theorem metD (F : FunD K x qual params body scope [] [] f fd) (cl : Cls K C) (me : Meth K C x f) (S : FnScope N ps scope)
    (hb : ∀ (kV doc pm : Value) (an : Option Addr) (cdv ct : Value) (us : List Value), us.length = ps.length → bindArgs (PySem.W.fnOf x qual params body scope .none kV doc pm an cdv ct) ⟨us, []⟩ = pure (ps.zip us))
    (len : ∀ vs H Q E, sp vs H Q E → vs.length = ps.length)
    (hbody : ∀ (cdv : Value) (A : Around) (outer : List Env) (s : Shared) (H : Hp) (vs : List V) (Q : VK) (E : XK), Room k (A.deeper (envOfC qual scope s.heap.objs.size f cdv)) → sp vs H Q E →
      ∃ t, PSs (cxOf CX0 P w K mg base N qual scope f cdv A outer s H E).nox body t ∧ t { nx := fun _ H' => Q .non H', rt := Q } (start N vs) H) : Met P w K mg base (k + 1) C x sp [] :=
  ⟨f, fd, ps, [], cl, me, fnD F S len hbody, F.bindsN hb, .nil⟩
theorem makD {y : Str} (F : FunD K x qual params body scope [] [] f fd) (M : Mk K C f) (m : mg y = some (.ref C)) (S : FnScope N ps scope)
    (hb : ∀ (kV doc pm : Value) (an : Option Addr) (cdv ct : Value) (us : List Value), us.length = ps.length → bindArgs (PySem.W.fnOf x qual params body scope .none kV doc pm an cdv ct) ⟨us, []⟩ = pure (ps.zip us))
    (len : ∀ vs H Q E, sp vs H Q E → vs.length = ps.length)
    (hbody : ∀ (cdv : Value) (A : Around) (outer : List Env) (s : Shared) (H : Hp) (vs : List V) (Q : VK) (E : XK), Room k (A.deeper (envOfC qual scope s.heap.objs.size f cdv)) → sp vs H Q E →
      ∃ t, PSs (cxOf CX0 P w K mg base N qual scope f cdv A outer s H E).nox body t ∧ t { nx := fun _ H' => Q .non H', rt := Q } (start N vs) H) : Mak P w K mg base (k + 1) y C sp [] :=
  ⟨f, fd, ps, [], M, fnD F S len hbody, m, F.bindsN hb, .nil⟩
theorem prpD {y : Str} {q : Addr} (F : FunD K x qual params body scope [] [] f fd) (cl : Cls K C) (pr : PropOf K C y q f) (S : FnScope N ps scope)
    (hb : ∀ (kV doc pm : Value) (an : Option Addr) (cdv ct : Value) (us : List Value), us.length = ps.length → bindArgs (PySem.W.fnOf x qual params body scope .none kV doc pm an cdv ct) ⟨us, []⟩ = pure (ps.zip us))
    (len : ∀ vs H Q E, sp vs H Q E → vs.length = ps.length)
    (hbody : ∀ (cdv : Value) (A : Around) (outer : List Env) (s : Shared) (H : Hp) (vs : List V) (Q : VK) (E : XK), Room k (A.deeper (envOfC qual scope s.heap.objs.size f cdv)) → sp vs H Q E →
      ∃ t, PSs (cxOf CX0 P w K mg base N qual scope f cdv A outer s H E).nox body t ∧ t { nx := fun _ H' => Q .non H', rt := Q } (start N vs) H) : Prp P w K mg base (k + 1) C y sp :=
  ⟨q, f, fd, ps, cl, pr, fnD F S len hbody, F.bindsN hb⟩
end
section
variable {σ : St} {H : Hp} {n b c : St → Hp → Prop} {r : VK} {Q : VK} {K : Frg} {a C dx : Addr} {fs : List (Str × V)} {f : Str} {v : V}
theorem r_fld {te : TE} (h : te σ H fun x H1 => ∃ a C dx fs v, x = .ref a ∧ H1 a = some (.ins C dx fs) ∧ Cls K C ∧ NoAttr K C f ∧ fs.lookup f = some v ∧ Q v H1) : tFld K te f σ H Q := h
theorem r_fget {R : V → Prop} (h : H a = some (.ins C dx fs)) (cl : Cls K C) (na : NoAttr K C f) (l : fs.lookup f = some v) (q : R v) :
    ∃ a' C dx fs v, V.ref a = .ref a' ∧ H a' = some (.ins C dx fs) ∧ Cls K C ∧ NoAttr K C f ∧ fs.lookup f = some v ∧ R v := ⟨a, C, dx, fs, v, rfl, h, cl, na, l, q⟩
theorem r_sfld {ta tv : TE} (h : tv σ H fun y H1 => ta σ H1 fun x H2 => ∃ a C dx fs, x = .ref a ∧ H2 a = some (.ins C dx fs) ∧ Cls K C ∧ NoAttr K C f ∧ fs.length < 1000 ∧ n σ (upd H2 a (.ins C dx (putF f y fs)))) : sFld K ta tv f ⟨n, r, b, c⟩ σ H := h
theorem r_fset {R : Hp → Prop} {fs' : List (Str × V)} (h : H a = some (.ins C dx fs)) (cl : Cls K C) (na : NoAttr K C f) (hl : fs.length < 1000) (e : putF f v fs = fs') (q : R (upd H a (.ins C dx fs'))) :
    ∃ a' C dx fs, V.ref a = .ref a' ∧ H a' = some (.ins C dx fs) ∧ Cls K C ∧ NoAttr K C f ∧ fs.length < 1000 ∧ R (upd H a' (.ins C dx (putF f v fs))) := ⟨a, C, dx, fs, rfl, h, cl, na, hl, by rw [e]; exact q⟩
theorem r_meth {m : Str} {sp : Sp} {dvs : List V} {E : XK} {ta : TE} {t : TA} (h : ta σ H fun x H1 => ∃ a dx fs, x = .ref a ∧ H1 a = some (.ins C dx fs) ∧ fs.lookup m = none ∧ t σ H1 fun vs H2 => sp (x :: (vs ++ dvs)) H2 Q E) : tMeth C m sp dvs E ta t σ H Q := h
theorem r_mget {m : Str} {R : Prop} (h : H a = some (.ins C dx fs)) (l : fs.lookup m = none) (q : R) : ∃ a' dx fs, V.ref a = .ref a' ∧ H a' = some (.ins C dx fs) ∧ fs.lookup m = none ∧ R := ⟨a, dx, fs, rfl, h, l, q⟩
theorem r_prop {sp : Sp} {dvs : List V} {E : XK} {ta : TE} (h : ta σ H fun x H1 => ∃ a dx fs, x = .ref a ∧ H1 a = some (.ins C dx fs) ∧ sp (.ref a :: dvs) H1 Q E) : tProp C sp dvs E ta σ H Q := h
theorem r_pget {R : Addr → Prop} (h : H a = some (.ins C dx fs)) (q : R a) : ∃ a' dx fs, V.ref a = .ref a' ∧ H a' = some (.ins C dx fs) ∧ R a' := ⟨a, dx, fs, rfl, h, q⟩
theorem r_make {sp : Sp} {dvs : List V} {E : XK} {t : TA} (h : t σ H fun vs H1 => ∀ x dx, H1 x = none → H1 dx = none → dx ≠ x → sp (.ref x :: (vs ++ dvs)) (upd (upd H1 dx (.own x)) x (.ins C dx [])) (fun v H2 => v = .non ∧ Q (.ref x) H2) E) : tMake C sp dvs E t σ H Q := h
end

/-! ### loops over rows -/
section
variable {X : Cx} {tg iter : Expr}
/-- one of two ways to come by an iterator -/
theorem pi_or {u v : TI} (h1 : PI X tg iter u) (h2 : PI X tg iter v) : PI X tg iter (fun σ H R => u σ H R ∨ v σ H R) := by
  refine ⟨fun pins s σ H R I h => ?_⟩
  rcases h with h | h
  · exact h1.run pins s σ H R I h
  · exact h2.run pins s σ H R I h
end
set_option maxHeartbeats 8000000 in
theorem meets_enum1 {v : Value} {o : Obj} {G : Heap → Prop} (B : Begins v o G) :
    Meets (Builtin.«enumerate.__new__» ⟨[.type "enumerate", v], []⟩) (fun _ R s => G s.heap ∧
      R (.ok (.ret (.ref (s.heap.push o).objs.size))) { s with heap := (s.heap.push o).push { cls := .type "enumerate", data := .fields #[.none, .bool false, .ref s.heap.objs.size, rawInt 0, .none, .none] } }) :=
  .of_wp fun prog w A R s h => by
    obtain ⟨hp, g, d, tk, os⟩ := s
    obtain ⟨h1, h⟩ := h
    have hsub := sub_enumerate
    have q1 : ∀ {A' : Around} {E : Value → Shared → Prop} {Q : Value → Shared → Prop}, Q (.ref hp.objs.size) ⟨hp.push o, g, d, tk, os⟩ → wpAny (model prog w) A' (pyIter v) Q E ⟨hp, g, d, tk, os⟩ :=
      fun q => B.iter prog w _ _ ⟨hp, g, d, tk, os⟩ _ h1 q
    wp_walk using q1
    refine wpAny_stack_any fun st => wpAny_pure ?_
    split
    · rename_i c _ _ _ _ _
      cases (c == Value.type "enumerate")
      · wp_walk using q1
        exact ⟨_, rfl, h⟩
      · wp_walk using q1
        exact ⟨_, rfl, h⟩
    · wp_walk using q1
      exact ⟨_, rfl, h⟩
theorem call_enum1 {prog : Program} {w : World} {A : Around} {E : Value → Shared → Prop} {s : Shared} {v : Value} {o : Obj} {G : Heap → Prop} {Q : Value → Shared → Prop} (B : Begins v o G) (h1 : G s.heap)
    (h : ∀ h', IsEnum h' (s.heap.objs.size + 1) s.heap.objs.size 0 .none → h'.get? s.heap.objs.size = some o → h'.objs.size = s.heap.objs.size + 2 →
      (∀ b o, s.heap.get? b = some o → h'.get? b = some o) → Q (.ref (s.heap.objs.size + 1)) { s with heap := h' }) : wpAny (model prog w) A (call (.type "enumerate") [v]) Q E s := by
  refine callType_new F.called_enumerate (by decide) (F.typeCall_enumerate_1 _) (F.newCall_enumerate_1 _) (fun obj => F.args_object_init_2 obj _) F.entry_enumerate_new (meets_enum1 B) ⟨h1, ?_⟩
  have hz : (s.heap.push o).objs.size = s.heap.objs.size + 1 := Heap.size_push ..
  show _ ∧ _
  rw [hz]
  have he := Heap.get?_push_size (s.heap.push o) (o := { cls := .type "enumerate", data := .fields #[.none, .bool false, .ref s.heap.objs.size, rawInt 0, .none, .none] }) rfl
  rw [hz] at he
  exact ⟨⟨_, he, rfl⟩, h _ he (Heap.get?_push_of_some _ (Heap.get?_push_size _ B.free)) (by rw [Heap.size_push, hz]) fun b o x => Heap.get?_push_of_some _ (Heap.get?_push_of_some _ x)⟩
/-- the tuple at a, each item in a new pair -/
def Itet (K : PySem.W.Frag) (a : Addr) (xs : List V) : It :=
  ⟨fun i H => SqT K H a xs ∧ i < xs.length, fun i H v H' => ∃ T x, v = .ref T ∧ H T = none ∧ H' = upd H T (.tup [.int (i : Nat), x]) ∧ xs[i]? = some x, fun i H => SqT K H a xs ∧ xs.length ≤ i⟩
theorem turn_enumT {P : Program} {w : World} {K : PySem.W.Frag} {elts : List Expr} {kk : Nat} {tpos : Pos} (a e it : Addr) (xs : List V) (hta : a ≠ it) :
    Turn P w K (.Tuple elts kk tpos) (Itet K a xs) [e, it] e (fun i h => (∃ old, IsEnum h e it ((i : Nat) : Int) old) ∧ h.IsTupleIter it a i ∧ e ≠ it ∧ i ≤ xs.length) where
  mem := by simp
  obj := fun i h st b hb => by
    obtain ⟨⟨old, he⟩, ⟨o, ho, hc, hd⟩, _⟩ := st
    have e' : b = e ∨ b = it := by simpa using hb
    rcases e' with z | z
    · rw [z]
      exact ⟨_, he, fun v q => nomatch q⟩
    · rw [z]
      exact ⟨o, ho, fun v q => by rw [hd] at q; cases q⟩
  keep := fun i h h' st k => let ⟨⟨old, he⟩, hi, hne, hn⟩ := st; ⟨⟨old, k e (by simp) _ he⟩, hi.at fun o q => k it (by simp) o q, hne, hn⟩
  item := by
    intro X hP hw hK hc i pins s σ H E I hf st hg
    subst hP hw hK
    obtain ⟨⟨old, he⟩, hit, hne, hn⟩ := st
    obtain ⟨hq, hlt⟩ := hg
    obtain ⟨its, rv, p, hz⟩ := I.tuple hq
    have p' : s.heap.IsTuple a its.toArray := p
    have hl := rv.length
    have hel : e < s.heap.objs.size := Heap.lt_size he
    have hil : it < s.heap.objs.size := by
      obtain ⟨_, q, _⟩ := hit
      exact Heap.lt_size q
    have hea : e ≠ a := fun q => by
      obtain ⟨o, ho, hc', _⟩ := p'
      rw [← q, he] at ho
      cases ho
      have z : Value.type "enumerate" = Value.type "tuple" := hc'
      injection z with z
      exact absurd z (by decide)
    have D := Draws.tuple (prog := X.prog) (w := X.w) (A := X.A.in1) (I.ok.hd hc) it a hta its.toArray
    refine wpAny_pyNext_enum_itemD D he ⟨hit, p'⟩ (by simpa [← hl] using hlt) hne (by simp [hne, hea]) fun u h' tk hu ho hs' hT hsz hk => ?_
    obtain ⟨x, hx, ru⟩ : ∃ x, xs[i]? = some x ∧ RelV x u := by
      obtain ⟨u', hu', r'⟩ := rv.get (List.getElem?_eq_getElem hlt)
      have e1 : its[i]? = some u := by simpa using hu
      rw [e1] at hu'
      cases hu'
      exact ⟨_, List.getElem?_eq_getElem hlt, r'⟩
    refine ⟨_, rfl, wpAny_letOwnedTupleGo_enum (s := { s with heap := h', toks := tk + 1 }) ho fun h'' he' sb => ?_⟩
    have hT2 : h''.get? s.heap.objs.size = some { cls := .type "tuple", data := .seq #[.int i tk, u] } := (sb.2 _ (Nat.ne_of_gt hel)).trans hT
    have new : ObjOk X.prog X.w (upd H s.heap.objs.size (.tup [.int (i : Nat), x])) h'' s.heap.objs.size (.tup [.int (i : Nat), x]) :=
      ⟨by show 2 ≤ sizeLine; decide, [.int i tk, u], .cons ⟨_, rfl⟩ (.cons ru .nil), ⟨_, hT2, rfl, _, rfl⟩⟩
    have I1 : Inv X pins σ (upd H s.heap.objs.size (.tup [.int (i : Nat), x])) { s with heap := h'', toks := tk + 1 } :=
      I.turnedNew (ch := [e, it]) (fun b ob hb q => (sb.2 b (fun z => hb (by simp [z]))).trans (hk b ob (fun z => hb (by simp [z])) (fun z => hb (by simp [z])) q)) hf (Nat.le_refl _) new
    refine ⟨.ref s.heap.objs.size, _, I1, rfl, ⟨_, x, rfl, I.hok.fresh (Nat.le_refl _), rfl, hx⟩, ⟨⟨u, ?_⟩, hs'.1.at fun o q => (sb.2 it (Ne.symm hne)).trans q, hne, hlt⟩, fun b hb => ?_⟩
    · have e1 : ((i + 1 : Nat) : Int) = (i : Int) + 1 := by omega
      rw [e1]
      exact he'
    · have hb' : b < s.heap.objs.size := by
        have e' : b = e ∨ b = it := by simpa using hb
        rcases e' with z | z
        · rw [z]
          exact hel
        · rw [z]
          exact hil
      rw [upd_ne (Nat.ne_of_lt hb')]
      exact (hf b hb).1
  done := by
    intro X hP hw hK hc i pins s σ H E I hf st hg
    subst hP hw hK
    obtain ⟨⟨old, he⟩, hit, hne, hn⟩ := st
    obtain ⟨hq, hx⟩ := hg
    obtain ⟨its, rv, p, hz⟩ := I.tuple hq
    have p' : s.heap.IsTuple a its.toArray := p
    obtain ⟨f0, f1, f2, f3, f4, f5⟩ := hf it (by simp)
    have hl := rv.length
    have hi : i = its.toArray.size := by
      simp
      omega
    subst hi
    have D := Draws.tuple (prog := X.prog) (w := X.w) (A := X.A.in1) (I.ok.hd hc) it a hta its.toArray
    exact wpAny_pyNext_enum_endD D he ⟨hit, p'⟩ fun h' eb => ⟨rfl, I.turned (t' := s.toks) (fun b o hb q => eb b o hb q) f0 f1 f3 f4 f5⟩
  self := fun A i s Q E st h => let ⟨⟨_, he⟩, _⟩ := st; wpAny_pyIter_enum he h
def iEnumT (K : PySem.W.Frag) (ta : TA) : TI := fun σ H R => ta σ H fun vs H1 => ∃ a xs, vs = [.ref a] ∧ SqT K H1 a xs ∧ R (Itet K a xs) H1
theorem pi_enumT {X : Cx} {e : Expr} {ta : TA} {p pos tpos : Pos} {elts : List Expr} {kk : Nat} (hg : Gl X "enumerate") (hm : X.mg "enumerate" = none) (ha : PA X [e] ta) (hs : starEach [e] X.env = [(false, eval e X.env)] := by rfl) :
    PI X (.Tuple elts kk tpos) (.Call (.Name "enumerate" p) [e] [] pos) (iEnumT X.K ta) := by
  refine ⟨fun pins s σ H R I h => ?_⟩
  refine PyProof.Rows.Call_ (ld_blt I hg hm PyProof.Rows.boot_enumerate (PyProof.Rows.callWith_type1 (thn (ha.run pos pins s σ H _ I h) fun us s1 ⟨vs, H1, I1, r1, q1⟩ => ?_) hs rfl))
  obtain ⟨a, xs, ex, hq, q⟩ := q1
  subst ex
  cases r1 with
  | cons r rr =>
    cases rr
    cases r
    obtain ⟨its, rv, p', hz⟩ := I1.tuple hq
    have p2 : s1.heap.IsTuple a its.toArray := p'
    refine call_enum1 (begins_tuple a its.toArray) p2 fun h' he hit hsz hk => wpAny_pyIter_enum he ?_
    have I2 : Inv X pins σ H1 { s1 with heap := h' } := I1.kept (t' := s1.toks) hk
    have hal : a < s1.heap.objs.size := by
      obtain ⟨_, q, _⟩ := p2
      exact Heap.lt_size q
    refine ⟨s1.heap.objs.size + 1, [s1.heap.objs.size + 1, s1.heap.objs.size], _, _, H1, rfl, I2, turn_enumT a (s1.heap.objs.size + 1) s1.heap.objs.size xs (Nat.ne_of_lt hal), ⟨⟨.none, he⟩, ⟨_, hit, rfl, rfl⟩, Nat.succ_ne_self _, Nat.zero_le _⟩, fun b hb => ?_, q⟩
    have e' : b = s1.heap.objs.size + 1 ∨ b = s1.heap.objs.size := by simpa using hb
    have hle : s1.heap.objs.size ≤ b := by
      rcases e' with z | z
      · rw [z]
        exact Nat.le_add_right _ _
      · rw [z]
        exact Nat.le_refl _
    exact I1.fpOk hle (I1.hok.fresh hle)
/-! ### the turns of such loops -/
section
variable {σ : St} {H : Hp} {n b c : St → Hp → Prop} {r : VK} {Q : VK} {K : PySem.W.Frag}
theorem r_each {J : It} {g : TG} {tb : TS} (N : Nat) (Pv : Nat → St → Hp → Prop) (h0 : Pv 0 σ H)
    (hs : ∀ (i : Nat) σ H, i < N → Pv i σ H → J.go i H ∧ ∀ x H', J.yld i H x H' → g x σ H' fun σ2 H2 => tb ⟨Pv (i + 1), r, n, Pv (i + 1)⟩ σ2 H2) (hd : ∀ σ H, Pv N σ H → J.stop N H ∧ n σ H) :
    ∃ W : Nat → Nat → St → Hp → Prop, (∃ m, W 0 m σ H) ∧ ∀ i m σ H, W i m σ H →
    (J.stop i H ∧ n σ H) ∨ (J.go i H ∧ ∃ N : St → Hp → Prop, (∀ σ' H', N σ' H' → ∃ m', m' < m ∧ W (i + 1) m' σ' H') ∧ ∀ x H', J.yld i H x H' → g x σ H' fun σ2 H2 => tb ⟨N, r, n, N⟩ σ2 H2) := by
  refine ⟨fun i m σ H => i ≤ N ∧ m = N - i ∧ Pv i σ H, ⟨N, Nat.zero_le _, rfl, h0⟩, fun i m σ H ⟨hi, hm, hp⟩ => ?_⟩
  by_cases c : i < N
  · obtain ⟨h1, h2⟩ := hs i σ H c hp
    exact .inr ⟨h1, Pv (i + 1), fun σ' H' q => ⟨N - (i + 1), by omega, c, rfl, q⟩, h2⟩
  · have e : i = N := by omega
    subst e
    exact .inl (hd σ H hp)
/-- a for over a list -/
theorem r_eachL {g : TG} {tb : TS} {a : Addr} {xs : List V} (Pv : Nat → St → Hp → Prop) (h0 : Pv 0 σ H) (hl : ∀ i σ H, Pv i σ H → SqL K H a xs)
    (hs : ∀ (i : Nat) x σ H, xs[i]? = some x → Pv i σ H → g x σ H fun σ2 H2 => tb ⟨Pv (i + 1), r, n, Pv (i + 1)⟩ σ2 H2) (hd : ∀ σ H, Pv xs.length σ H → n σ H) :
    ∃ W : Nat → Nat → St → Hp → Prop, (∃ m, W 0 m σ H) ∧ ∀ i m σ H, W i m σ H →
    ((Itl K a).stop i H ∧ n σ H) ∨ ((Itl K a).go i H ∧ ∃ N : St → Hp → Prop, (∀ σ' H', N σ' H' → ∃ m', m' < m ∧ W (i + 1) m' σ' H') ∧ ∀ x H', (Itl K a).yld i H x H' → g x σ H' fun σ2 H2 => tb ⟨N, r, n, N⟩ σ2 H2) := by
  refine r_each xs.length Pv h0 (fun i σ H hi p => ⟨⟨xs, xs[i], hl i σ H p, List.getElem?_eq_getElem hi⟩, ?_⟩) fun σ H p => ⟨⟨xs, hl _ σ H p, Nat.le_refl _⟩, hd σ H p⟩
  rintro x _ ⟨rfl, e⟩
  exact hs i x σ _ (e xs (hl i σ _ p)) p
/-- .. a tuple -/
theorem r_eachT {g : TG} {tb : TS} {a : Addr} {xs : List V} (Pv : Nat → St → Hp → Prop) (h0 : Pv 0 σ H) (hl : ∀ i σ H, Pv i σ H → SqT K H a xs)
    (hs : ∀ (i : Nat) x σ H, xs[i]? = some x → Pv i σ H → g x σ H fun σ2 H2 => tb ⟨Pv (i + 1), r, n, Pv (i + 1)⟩ σ2 H2) (hd : ∀ σ H, Pv xs.length σ H → n σ H) :
    ∃ W : Nat → Nat → St → Hp → Prop, (∃ m, W 0 m σ H) ∧ ∀ i m σ H, W i m σ H →
    ((Itt K a).stop i H ∧ n σ H) ∨ ((Itt K a).go i H ∧ ∃ N : St → Hp → Prop, (∀ σ' H', N σ' H' → ∃ m', m' < m ∧ W (i + 1) m' σ' H') ∧ ∀ x H', (Itt K a).yld i H x H' → g x σ H' fun σ2 H2 => tb ⟨N, r, n, N⟩ σ2 H2) := by
  refine r_each xs.length Pv h0 (fun i σ H hi p => ⟨⟨xs, xs[i], hl i σ H p, List.getElem?_eq_getElem hi⟩, ?_⟩) fun σ H p => ⟨⟨xs, hl _ σ H p, Nat.le_refl _⟩, hd σ H p⟩
  rintro x _ ⟨rfl, e⟩
  exact hs i x σ _ (e xs (hl i σ _ p)) p
/-- .. with the numbers of the turns -/
theorem r_eachE {g : TG} {tb : TS} {a : Addr} {xs : List V} (Pv : Nat → St → Hp → Prop) (h0 : Pv 0 σ H) (hl : ∀ i σ H, Pv i σ H → SqL K H a xs)
    (hs : ∀ (i : Nat) x σ H T, xs[i]? = some x → Pv i σ H → H T = none → g (.ref T) σ (upd H T (.tup [.int (i : Nat), x])) fun σ2 H2 => tb ⟨Pv (i + 1), r, n, Pv (i + 1)⟩ σ2 H2) (hd : ∀ σ H, Pv xs.length σ H → n σ H) :
    ∃ W : Nat → Nat → St → Hp → Prop, (∃ m, W 0 m σ H) ∧ ∀ i m σ H, W i m σ H →
    ((Ite K a).stop i H ∧ n σ H) ∨ ((Ite K a).go i H ∧ ∃ N : St → Hp → Prop, (∀ σ' H', N σ' H' → ∃ m', m' < m ∧ W (i + 1) m' σ' H') ∧ ∀ x H', (Ite K a).yld i H x H' → g x σ H' fun σ2 H2 => tb ⟨N, r, n, N⟩ σ2 H2) := by
  refine r_each xs.length Pv h0 (fun i σ H hi p => ⟨⟨xs, xs[i], hl i σ H p, List.getElem?_eq_getElem hi⟩, ?_⟩) fun σ H p => ⟨⟨xs, hl _ σ H p, Nat.le_refl _⟩, hd σ H p⟩
  rintro _ _ ⟨T, x, rfl, hT, rfl, e⟩
  exact hs i x σ _ T (e xs (hl i σ _ p)) p hT
theorem r_eachET {g : TG} {tb : TS} {a : Addr} {xs : List V} (Pv : Nat → St → Hp → Prop) (h0 : Pv 0 σ H) (hl : ∀ i σ H, Pv i σ H → SqT K H a xs)
    (hs : ∀ (i : Nat) x σ H T, xs[i]? = some x → Pv i σ H → H T = none → g (.ref T) σ (upd H T (.tup [.int (i : Nat), x])) fun σ2 H2 => tb ⟨Pv (i + 1), r, n, Pv (i + 1)⟩ σ2 H2) (hd : ∀ σ H, Pv xs.length σ H → n σ H) :
    ∃ W : Nat → Nat → St → Hp → Prop, (∃ m, W 0 m σ H) ∧ ∀ i m σ H, W i m σ H →
    ((Itet K a xs).stop i H ∧ n σ H) ∨ ((Itet K a xs).go i H ∧ ∃ N : St → Hp → Prop, (∀ σ' H', N σ' H' → ∃ m', m' < m ∧ W (i + 1) m' σ' H') ∧ ∀ x H', (Itet K a xs).yld i H x H' → g x σ H' fun σ2 H2 => tb ⟨N, r, n, N⟩ σ2 H2) := by
  refine r_each xs.length Pv h0 (fun i σ H hi p => ⟨⟨hl i σ H p, hi⟩, ?_⟩) fun σ H p => ⟨⟨hl _ σ H p, Nat.le_refl _⟩, hd σ H p⟩
  rintro _ _ ⟨T, x, rfl, hT, rfl, e⟩
  exact hs i x σ _ T e p hT
/-- .. of range(i, j, c) -/
theorem r_eachR {g : TG} {tb : TS} {i0 j0 c0 : Int} (k : Nat) (hc : RgC i0 j0 c0 k) (Pv : Nat → St → Hp → Prop) (h0 : Pv 0 σ H)
    (hs : ∀ (i : Nat) σ H, i < k → Pv i σ H → g (.int (i0 + i * c0)) σ H fun σ2 H2 => tb ⟨Pv (i + 1), r, n, Pv (i + 1)⟩ σ2 H2) (hd : ∀ σ H, Pv k σ H → n σ H) :
    RgC i0 j0 c0 k ∧ ∃ W : Nat → Nat → St → Hp → Prop, (∃ m, W 0 m σ H) ∧ ∀ i m σ H, W i m σ H →
    ((Itc i0 c0 k).stop i H ∧ n σ H) ∨ ((Itc i0 c0 k).go i H ∧ ∃ N : St → Hp → Prop, (∀ σ' H', N σ' H' → ∃ m', m' < m ∧ W (i + 1) m' σ' H') ∧ ∀ x H', (Itc i0 c0 k).yld i H x H' → g x σ H' fun σ2 H2 => tb ⟨N, r, n, N⟩ σ2 H2) := by
  refine ⟨hc, r_each k Pv h0 (fun i σ H hi p => ⟨hi, ?_⟩) fun σ H p => ⟨Nat.le_refl _, hd σ H p⟩⟩
  rintro _ _ ⟨rfl, rfl⟩
  exact hs i σ _ hi p
theorem r_rng2 {ta : TA} {R : It → Hp → Prop} (h : ta σ H fun vs H1 => ∃ i j : Int, vs = [.int i, .int j] ∧ (-(2 ^ 62) ≤ i ∧ i < 2 ^ 62 ∧ -(2 ^ 62) ≤ j ∧ j < 2 ^ 62) ∧ R (Itr i (j - i).toNat) H1) : iRng2 ta σ H R := h
theorem r_rng3 {ta : TA} {R : It → Hp → Prop} (h : ta σ H fun vs H1 => ∃ (i j c : Int) (n : Nat), vs = [.int i, .int j, .int c] ∧ RgC i j c n ∧ R (Itc i c n) H1) : iRng3 ta σ H R := h
theorem r_itL {tl : TE} {R : It → Hp → Prop} (h : tl σ H fun x H1 => ∃ a, x = .ref a ∧ (∃ xs, SqL K H1 a xs) ∧ R (Itl K a) H1) : iList K tl σ H R := h
theorem r_itT {tl : TE} {R : It → Hp → Prop} (h : tl σ H fun x H1 => ∃ a, x = .ref a ∧ (∃ xs, SqT K H1 a xs) ∧ R (Itt K a) H1) : iTup K tl σ H R := h
theorem r_itE {ta : TA} {R : It → Hp → Prop} (h : ta σ H fun vs H1 => ∃ a xs, vs = [.ref a] ∧ SqL K H1 a xs ∧ R (Ite K a) H1) : iEnum K ta σ H R := h
theorem r_itET {ta : TA} {R : It → Hp → Prop} (h : ta σ H fun vs H1 => ∃ a xs, vs = [.ref a] ∧ SqT K H1 a xs ∧ R (Itet K a xs) H1) : iEnumT K ta σ H R := h
theorem r_eqB {i j : Bool} (h : Q (.bl (decide (i = j))) H) : rEq (.bl i) (.bl j) H Q := by
  have e : decide (V.bl i = V.bl j) = decide (i = j) := by simp
  exact ⟨rfl, by rw [e]; exact h⟩
theorem r_neB {i j : Bool} (h : Q (.bl (!decide (i = j))) H) : rNe (.bl i) (.bl j) H Q := by
  have e : decide (V.bl i = V.bl j) = decide (i = j) := by simp
  exact ⟨rfl, by rw [e]; exact h⟩
end

local macro_rules | `(tactic| walk_at "rv") => `(tactic| ((with_reducible apply r_var); (· rfl)))
local macro_rules | `(tactic| walk_at "rd1") => `(tactic| first
  | (with_reducible refine r_seq ?_)
  | (with_reducible refine r_asg ?_)
  | (with_reducible refine r_name ?_)
  | ((with_reducible apply r_var); (· rfl))
  | (with_reducible refine r_c ?_)
  | (with_reducible refine r_op ?_)
  | (with_reducible refine r_I0 ?_)
  | (with_reducible refine r_eqI ?_)
  | (with_reducible refine r_neI ?_)
  | (with_reducible refine r_eqS ?_)
  | (with_reducible refine r_neS ?_)
  | (with_reducible refine r_cons ?_)
  | (with_reducible refine r_nil ?_)
  | (with_reducible refine r_if ?_)
  | (with_reducible refine r_test ?_)
  | (with_reducible refine r_B ?_)
  | (with_reducible refine r_bl ?_)
  | (with_reducible refine r_ret ?_)
  | (with_reducible refine r_drop ?_)
  | (with_reducible refine r_un ?_)
  | (with_reducible refine r_U ?_)
  | (with_reducible refine r_CB ?_)
  | (with_reducible refine r_call ?_)
  | (with_reducible refine r_retN ?_)
  | (with_reducible refine r_next ?_)
  | (with_reducible refine r_brk ?_)
  | (with_reducible refine r_ifE ?_)
  | (with_reducible refine r_and ?_)
  | (with_reducible refine r_or ?_)
  | (with_reducible refine r_not ?_)
  | (with_reducible refine r_andV ?_)
  | (with_reducible refine r_orV ?_)
  | (with_reducible refine r_notV ?_)
  | (with_reducible refine r_chain ?_)
  | (with_reducible refine r_iteF ?_)
  | (with_reducible refine r_iteT ?_)
  | (with_reducible refine r_iteNT ?_)
  | (with_reducible refine r_iteNF ?_)
  | ((with_reducible apply r_I); (· first | decide | exact ⟨by decide, by decide⟩ | exact .inr ⟨by decide, by decide⟩ | exact .inl ⟨by decide, by decide⟩ | exact ⟨by decide, by decide, by decide⟩))
  | (with_reducible refine r_bm ?_)
  | (with_reducible refine r_bm0 ?_)
  | (with_reducible refine r_sub ?_)
  | (with_reducible refine r_yes ?_)
  | (with_reducible refine r_fld ?_)
  | (with_reducible refine r_sfld ?_)
  | (with_reducible refine r_meth ?_)
  | (with_reducible refine r_prop ?_)
  | (with_reducible refine r_make ?_)
  | (with_reducible refine r_gcons ?_)
  | (with_reducible refine r_gnil ?_)
  | (with_reducible refine r_rfl ?_)
  | (with_reducible refine r_for ?_)
  | (with_reducible refine r_rng1 ?_)
  | (with_reducible refine r_int1 ?_)
  | (with_reducible refine r_abs ?_)
  | (with_reducible refine r_tup ?_)
  | (with_reducible refine r_lst ?_))
local macro_rules | `(tactic| walk_at "rd") => `(tactic| repeat (walk_at "rd1"))

abbrev C_Utf8 (K : Frg) : Addr := He.ga K "Utf8"
structure Nm (K : Frg) (mg : Str → Option Value) : Prop where
  range : mg "range" = none
  enumerate : mg "enumerate" = none
  len : mg "len" = none
  tuple : mg "tuple" = none
  abs : mg "abs" = none
  int : mg "int" = none
  g_MARKS : ∃ v u, mg "MARKS" = some u ∧ RelV v u ∧ ∀ H, Dp K H v (.tuple [.int 0, .int 192, .int 224, .int 240])
  g_FIRSTS : ∃ v u, mg "FIRSTS" = some u ∧ RelV v u ∧ ∀ H, Dp K H v (.tuple [.tuple [.int 194, .int 223, .int 1, .int 128, .int 191], .tuple [.int 224, .int 224, .int 2, .int 160, .int 191], .tuple [.int 225, .int 236, .int 2, .int 128, .int 191], .tuple [.int 237, .int 237, .int 2, .int 128, .int 159], .tuple [.int 238, .int 239, .int 2, .int 128, .int 191], .tuple [.int 240, .int 240, .int 3, .int 144, .int 191], .tuple [.int 241, .int 243, .int 3, .int 128, .int 191], .tuple [.int 244, .int 244, .int 3, .int 128, .int 143]])
  cl_Utf8 : Cls K (C_Utf8 K)
  g_Utf8 : mg "Utf8" = some (.ref (C_Utf8 K))
  mk_Utf8 : Mk K (C_Utf8 K) (meAd "Utf8" "__init__" K)
  na_Utf8_points : NoAttr K (C_Utf8 K) "points"
  na_Utf8__missing : NoAttr K (C_Utf8 K) "_missing"
  na_Utf8__worth : NoAttr K (C_Utf8 K) "_worth"
  na_Utf8__least : NoAttr K (C_Utf8 K) "_least"
  na_Utf8__most : NoAttr K (C_Utf8 K) "_most"
  pr_Utf8_is_open : PropOf K (C_Utf8 K) "is_open" (He.ma K (C_Utf8 K) "is_open") (prAd "Utf8" "is_open" K)
  me_Utf8_take : Meth K (C_Utf8 K) "take" (meAd "Utf8" "take" K)
  me_Utf8__begin : Meth K (C_Utf8 K) "_begin" (meAd "Utf8" "_begin" K)
  me_Utf8__go_on : Meth K (C_Utf8 K) "_go_on" (meAd "Utf8" "_go_on" K)
  dig : PySem.W.nsIn K cStatics "sys.int_max_str_digits" = some none
def fs_Utf8 (x0 x1 x2 x3 x4 : V) : List (Str × V) := [("points", x0), ("_missing", x1), ("_worth", x2), ("_least", x3), ("_most", x4)]
theorem lk_Utf8_points {x0 x1 x2 x3 x4 : V} : (fs_Utf8 x0 x1 x2 x3 x4).lookup ("points" : Str) = some x0 := by
  unfold fs_Utf8
  rw [lk_hit]
theorem pt_Utf8_points {x0 x1 x2 x3 x4 y : V} : putF "points" y (fs_Utf8 x0 x1 x2 x3 x4) = fs_Utf8 y x1 x2 x3 x4 := by
  unfold fs_Utf8
  rw [pf_hit]
theorem in_Utf8_points {x0 : V} : putF "points" x0 ([] : List (Str × V)) = ([("points", x0)] : List (Str × V)) := by
  rw [pf_nil]
theorem lk_Utf8__missing {x0 x1 x2 x3 x4 : V} : (fs_Utf8 x0 x1 x2 x3 x4).lookup ("_missing" : Str) = some x1 := by
  unfold fs_Utf8
  rw [lk_miss (by decide +kernel), lk_hit]
theorem pt_Utf8__missing {x0 x1 x2 x3 x4 y : V} : putF "_missing" y (fs_Utf8 x0 x1 x2 x3 x4) = fs_Utf8 x0 y x2 x3 x4 := by
  unfold fs_Utf8
  rw [pf_miss (by decide +kernel), pf_hit]
theorem in_Utf8__missing {x0 x1 : V} : putF "_missing" x1 ([("points", x0)] : List (Str × V)) = ([("points", x0), ("_missing", x1)] : List (Str × V)) := by
  rw [pf_miss (by decide +kernel), pf_nil]
theorem lk_Utf8__worth {x0 x1 x2 x3 x4 : V} : (fs_Utf8 x0 x1 x2 x3 x4).lookup ("_worth" : Str) = some x2 := by
  unfold fs_Utf8
  rw [lk_miss (by decide +kernel), lk_miss (by decide +kernel), lk_hit]
theorem pt_Utf8__worth {x0 x1 x2 x3 x4 y : V} : putF "_worth" y (fs_Utf8 x0 x1 x2 x3 x4) = fs_Utf8 x0 x1 y x3 x4 := by
  unfold fs_Utf8
  rw [pf_miss (by decide +kernel), pf_miss (by decide +kernel), pf_hit]
theorem in_Utf8__worth {x0 x1 x2 : V} : putF "_worth" x2 ([("points", x0), ("_missing", x1)] : List (Str × V)) = ([("points", x0), ("_missing", x1), ("_worth", x2)] : List (Str × V)) := by
  rw [pf_miss (by decide +kernel), pf_miss (by decide +kernel), pf_nil]
theorem lk_Utf8__least {x0 x1 x2 x3 x4 : V} : (fs_Utf8 x0 x1 x2 x3 x4).lookup ("_least" : Str) = some x3 := by
  unfold fs_Utf8
  rw [lk_miss (by decide +kernel), lk_miss (by decide +kernel), lk_miss (by decide +kernel), lk_hit]
theorem pt_Utf8__least {x0 x1 x2 x3 x4 y : V} : putF "_least" y (fs_Utf8 x0 x1 x2 x3 x4) = fs_Utf8 x0 x1 x2 y x4 := by
  unfold fs_Utf8
  rw [pf_miss (by decide +kernel), pf_miss (by decide +kernel), pf_miss (by decide +kernel), pf_hit]
theorem in_Utf8__least {x0 x1 x2 x3 : V} : putF "_least" x3 ([("points", x0), ("_missing", x1), ("_worth", x2)] : List (Str × V)) = ([("points", x0), ("_missing", x1), ("_worth", x2), ("_least", x3)] : List (Str × V)) := by
  rw [pf_miss (by decide +kernel), pf_miss (by decide +kernel), pf_miss (by decide +kernel), pf_nil]
theorem lk_Utf8__most {x0 x1 x2 x3 x4 : V} : (fs_Utf8 x0 x1 x2 x3 x4).lookup ("_most" : Str) = some x4 := by
  unfold fs_Utf8
  rw [lk_miss (by decide +kernel), lk_miss (by decide +kernel), lk_miss (by decide +kernel), lk_miss (by decide +kernel), lk_hit]
theorem pt_Utf8__most {x0 x1 x2 x3 x4 y : V} : putF "_most" y (fs_Utf8 x0 x1 x2 x3 x4) = fs_Utf8 x0 x1 x2 x3 y := by
  unfold fs_Utf8
  rw [pf_miss (by decide +kernel), pf_miss (by decide +kernel), pf_miss (by decide +kernel), pf_miss (by decide +kernel), pf_hit]
theorem in_Utf8__most {x0 x1 x2 x3 x4 : V} : putF "_most" x4 ([("points", x0), ("_missing", x1), ("_worth", x2), ("_least", x3)] : List (Str × V)) = ([("points", x0), ("_missing", x1), ("_worth", x2), ("_least", x3), ("_most", x4)] : List (Str × V)) := by
  rw [pf_miss (by decide +kernel), pf_miss (by decide +kernel), pf_miss (by decide +kernel), pf_miss (by decide +kernel), pf_nil]
theorem no_Utf8_take {x0 x1 x2 x3 x4 : V} : (fs_Utf8 x0 x1 x2 x3 x4).lookup ("take" : Str) = none := by
  unfold fs_Utf8
  rw [lk_miss (by decide +kernel), lk_miss (by decide +kernel), lk_miss (by decide +kernel), lk_miss (by decide +kernel), lk_miss (by decide +kernel)] <;> rfl
theorem no_Utf8__begin {x0 x1 x2 x3 x4 : V} : (fs_Utf8 x0 x1 x2 x3 x4).lookup ("_begin" : Str) = none := by
  unfold fs_Utf8
  rw [lk_miss (by decide +kernel), lk_miss (by decide +kernel), lk_miss (by decide +kernel), lk_miss (by decide +kernel), lk_miss (by decide +kernel)] <;> rfl
theorem no_Utf8__go_on {x0 x1 x2 x3 x4 : V} : (fs_Utf8 x0 x1 x2 x3 x4).lookup ("_go_on" : Str) = none := by
  unfold fs_Utf8
  rw [lk_miss (by decide +kernel), lk_miss (by decide +kernel), lk_miss (by decide +kernel), lk_miss (by decide +kernel), lk_miss (by decide +kernel)] <;> rfl
theorem few_Utf8 {x0 x1 x2 x3 x4 : V} : (fs_Utf8 x0 x1 x2 x3 x4).length < 1000 := by
  show 5 < 1000
  decide

/-! ### numbers by powers of ten -/
theorem pow_bits {b : Int} (hb : b.natAbs < 16) (c : Nat) : (b ^ c).natAbs < 2 ^ (4 * c + 1) := by
  rw [Int.natAbs_pow]
  have h1 : b.natAbs ^ c ≤ 16 ^ c := Nat.pow_le_pow_left (by omega) c
  have h2 : (16 : Nat) ^ c = 2 ^ (4 * c) := by
    rw [Nat.pow_mul]
  have h3 : (2 : Nat) ^ (4 * c) < 2 ^ (4 * c + 1) := Nat.pow_lt_pow_right (by decide) (by omega)
  omega
theorem bits10 (n : Nat) : (10 : Int) ^ n < 2 ^ (4 * n + 1) := by
  have h := pow_bits (b := 10) (by decide) n
  have e : ((10 : Int) ^ n).natAbs = 10 ^ n := by rw [Int.natAbs_pow]; rfl
  rw [e] at h
  have h2 : ((10 ^ n : Nat) : Int) < ((2 ^ (4 * n + 1) : Nat) : Int) := Int.ofNat_lt.mpr h
  rw [Int.natCast_pow, Int.natCast_pow] at h2
  exact h2
theorem abs10 {x : Int} {n : Nat} (h : x.natAbs < 10 ^ n) : x.natAbs < 2 ^ (4 * n + 1) := by
  have h1 := pow_bits (b := 10) (by decide) n
  have e : ((10 : Int) ^ n).natAbs = 10 ^ n := by rw [Int.natAbs_pow]; rfl
  rw [e] at h1
  omega
theorem abs_mul10 {x y : Int} {a b : Nat} (h1 : x.natAbs < 10 ^ a) (h2 : y.natAbs < 10 ^ b) : (x * y).natAbs < 10 ^ (a + b) := by
  rw [Int.natAbs_mul, Nat.pow_add]
  exact Nat.mul_lt_mul'' h1 h2
theorem natAbs10 (n : Nat) : ((10 : Int) ^ n).natAbs = 10 ^ n := by rw [Int.natAbs_pow]; rfl
theorem pow10_le {a b : Nat} (h : a ≤ b) : (10 : Nat) ^ a ≤ 10 ^ b := Nat.pow_le_pow_right (by decide) h
def sp_law (K : PySem.W.Frag) : Sp := sp1 fun a H Q _ => ∃ (sl : Addr) (ns : List Int), a = .ref sl ∧ SqL K H sl (ns.map V.int) ∧ ∀ H', Q (.bl true) H'

/-! ### the law's state: a list of drawn numbers, its place, and the script; every draw is any number below its bound -/
structure SC where
  a : Addr
  nl : Addr
  sl : Addr
  nums : List Int
  ns : List Int
structure LS (K : PySem.W.Frag) (S : SC) (H : Hp) : Prop where
  st : ∃ k l f : Int, H S.a = some (.lst [.ref S.nl, .int k, .int l, .ref S.sl, .int f])
  nm : H S.nl = some (.lst (S.nums.map V.int))
  len : S.nums.length = 120
  ne : S.nl ≠ S.a
  scr : SqL K H S.sl (S.ns.map V.int)
/-- all but the state's own list stays -/
def Keep (S : SC) (H H' : Hp) : Prop := ∀ b o, b ≠ S.a → H b = some o → H' b = some o
theorem Keep.refl (S : SC) (H : Hp) : Keep S H H := fun _ _ _ h => h
theorem Keep.trans {S : SC} {H H1 H2 : Hp} (a : Keep S H H1) (b : Keep S H1 H2) : Keep S H H2 := fun c o n h => b c o n (a c o n h)
theorem Keep.of {S : SC} {H H' : Hp} (h : Same H H') : Keep S H H' := fun b o _ q => h b o q
section
variable {K : PySem.W.Frag} {S : SC} {H H' : Hp}
theorem LS.same (L : LS K S H) (h : Same H H') : LS K S H' := by
  obtain ⟨⟨k, l, f, e⟩, h2, h3, h4, h5⟩ := L
  exact ⟨⟨k, l, f, h _ _ e⟩, h _ _ h2, h3, h4, h.seq h5⟩
theorem LS.new (L : LS K S H) {p : Addr} (h : H p = none) (o : HO) : LS K S (upd H p o) := L.same (same_upd h o)
theorem LS.put (L : LS K S H) (k l f : Int) : LS K S (upd H S.a (.lst [.ref S.nl, .int k, .int l, .ref S.sl, .int f])) := by
  obtain ⟨⟨k', l', f', e⟩, h2, h3, h4, h5⟩ := L
  refine ⟨⟨k, l, f, upd_same⟩, (upd_ne h4).trans h2, h3, h4, ?_⟩
  rcases h5 with (h | ⟨o, h⟩) | h
  · refine .inl (.inl ((upd_ne fun q => ?_).trans h))
    rw [q, e] at h
    injection h with h
    injection h with h
    cases hn : S.ns with
    | nil =>
      rw [hn] at h
      cases h
    | cons x r =>
      rw [hn] at h
      cases h
  · refine .inl (.inr ⟨o, (upd_ne fun q => ?_).trans h⟩)
    rw [q, e] at h
    cases h
  · exact .inr h
theorem Keep.put (o : HO) : Keep S H (upd H S.a o) := fun b u n h => (upd_ne n).trans h
/-- an address that is free later was free before -/
theorem Keep.free (h : Keep S H H') (L : LS K S H') {p : Addr} (hp : H' p = none) : H p = none := by
  have n : p ≠ S.a := fun e => by
    obtain ⟨k, l, f, q⟩ := L.st
    rw [e, q] at hp
    cases hp
  cases e : H p with
  | none => rfl
  | some o =>
    rw [h p o n e] at hp
    cases hp
theorem LS.ne_free (L : LS K S H) {p : Addr} (hp : H p = none) : p ≠ S.a := fun e => by
  obtain ⟨k, l, f, q⟩ := L.st
  rw [e, q] at hp
  cases hp
end
abbrev s__law_cell : Stmt := (top 8)
theorem sc__law_cell : FnScope ["script", "k"] ["script", "k"] (defScope s__law_cell) := ⟨rfl, rfl, rfl, by decide +kernel, rfl, by decide +kernel, by decide +kernel⟩
abbrev s__law_numbers : Stmt := (top 9)
theorem sc__law_numbers : FnScope ["cell", "many", "rest", "size", "numbers", "k", "mixed"] ["cell", "many"] (defScope s__law_numbers) := ⟨rfl, rfl, rfl, by decide +kernel, rfl, by decide +kernel, by decide +kernel⟩
abbrev s__law_state : Stmt := (top 10)
theorem sc__law_state : FnScope ["script", "left", "numbers", "k", "parted"] ["script", "left"] (defScope s__law_state) := ⟨rfl, rfl, rfl, by decide +kernel, rfl, by decide +kernel, by decide +kernel⟩
abbrev s__law_next : Stmt := (top 11)
theorem sc__law_next : FnScope ["state", "many", "at"] ["state", "many"] (defScope s__law_next) := ⟨rfl, rfl, rfl, by decide +kernel, rfl, by decide +kernel, by decide +kernel⟩
abbrev s__law_big : Stmt := (top 12)
theorem sc__law_big : FnScope ["state", "many", "cell"] ["state", "many"] (defScope s__law_big) := ⟨rfl, rfl, rfl, by decide +kernel, rfl, by decide +kernel, by decide +kernel⟩
def sp__law_cell (K : PySem.W.Frag) : Sp := sp2 fun a b H Q _ => ∃ (sl : Addr) (ns : List Int) (k : Int), a = .ref sl ∧ b = .int k ∧ SqL K H sl (ns.map V.int) ∧ 0 ≤ k ∧ ∀ z : Int, Q (.int z) H
def sp__law_numbers : Sp := sp2 fun a b H Q _ => ∃ (z : Int) (n : Nat), a = .int z ∧ b = .int (n : Int) ∧ n ≤ 1000 ∧ ∀ (p : Addr) (xs : List Int), H p = none → xs.length = n → Q (.ref p) (upd H p (.lst (xs.map V.int)))
def sp__law_state (K : PySem.W.Frag) : Sp := sp2 fun a b H Q _ => ∃ (sl : Addr) (ns : List Int) (l : Int), a = .ref sl ∧ b = .int l ∧ SqL K H sl (ns.map V.int) ∧
  ∀ (S : SC) (H' : Hp), S.sl = sl → S.ns = ns → LS K S H' → Same H H' → H S.a = none → Q (.ref S.a) H'
def sp__law_next (K : PySem.W.Frag) : Sp := sp2 fun a b H Q _ => ∃ (S : SC) (m : Int), a = .ref S.a ∧ b = .int m ∧ 0 < m ∧ LS K S H ∧ ∀ (r : Int) (H' : Hp), 0 ≤ r → r < m → LS K S H' → Keep S H H' → Q (.int r) H'
def sp__law_big (K : PySem.W.Frag) : Sp := sp__law_next K
section
variable {P : Program} {w : World} {K : PySem.W.Frag} {mg : Str → Option Value} {base : Heap} {f : Addr} {fd : FuncData}
theorem ok__law_cell (F : FunD K "_law_cell" "_law_cell" (defArgs s__law_cell) (defBody s__law_cell) (defScope s__law_cell) [] [] (glAd "_law_cell" K) fd) (m : mg "_law_cell" = some (.ref (glAd "_law_cell" K))) (nb : Nm K mg) : Cal P w K mg base 1 "_law_cell" (sp__law_cell K) [] := by
  refine calD F m sc__law_cell (fun _ _ _ _ _ _ us hl => match us, hl with | [_, _], _ => rfl) len2 (fun cdv A outer s H vs Q E hr h => ⟨_, (pss_cons (ps_if (pt_cmpR op_lt (pv 1) (pe_callB call_len_seq (by rfl) nb.len PySem.boot_len (pa_cons (pv 0) pa_nil)) (nomark _))
    (pss_one (ps_ret (pe_ix ix_list (pv 0) (pv 1) (fun _ _ => rfl))))
    pss_nil)
    (pss_one (ps_ret pe_int))), ?_⟩)
  obtain ⟨_, _, rfl, sl, ns, k, rfl, rfl, hs, h0, h⟩ := h
  walk_at "rd"
  refine ⟨_, _, rfl, .inl hs, ?_⟩
  walk_at "rd"
  refine r_ite (fun c => ?_) (fun c => ?_)
  · rw [List.length_map] at c
    obtain ⟨v, _, e⟩ := atI_ints h0 c
    walk_at "rd"
    exact r_ixL hs e (h v)
  · walk_at "rd"
    exact h 0
theorem ok__law_numbers (F : FunD K "_law_numbers" "_law_numbers" (defArgs s__law_numbers) (defBody s__law_numbers) (defScope s__law_numbers) [] [] (glAd "_law_numbers" K) fd) (m : mg "_law_numbers" = some (.ref (glAd "_law_numbers" K))) (nb : Nm K mg) : Cal P w K mg base 1 "_law_numbers" sp__law_numbers [] := by
  refine calD F m sc__law_numbers (fun _ _ _ _ _ _ us hl => match us, hl with | [_, _], _ => rfl) len2 (fun cdv A outer s H vs Q E hr h => ⟨_, (pss_cons (ps_set (i := 2) sc__law_numbers.nd rfl (Or.inl rfl) (pe_callB call_abs (by rfl) nb.abs (by decide +kernel) (pa_cons (pv 0) pa_nil)))
    (pss_cons (ps_set (i := 3) sc__law_numbers.nd rfl (Or.inl rfl) (pv 2))
    (pss_cons (ps_set (i := 4) sc__law_numbers.nd rfl (Or.inl rfl) (pe_lst pa_nil))
    (pss_cons (ps_for PassesOwn.never rfl (pi_range1 rfl nb.range (pa_cons (pv 1) pa_nil)) (pg_name (i := 5) sc__law_numbers.nd rfl (Or.inl rfl))
    (pss_one (ps_if (PW.pt (pw_and (pt_cmpR op_ge (pv 3) (pe_op op_pow pe_int pe_int) (nomark _)) (pw_and1 (pt_cmpR op_gt (pv 2) pe_int (nomark _)))))
    (pss_cons (ps_expr (pe_bm PySem.F.plainAttrs_list PySem.F.slot_list_append PySem.F.type_list_append mt_append (pv 4) (pa_cons (pe_op op_mod (pe_callTy call_int1 (by rfl) nb.int (by decide +kernel) (pa_cons (pv 2) pa_nil)) pe_int) pa_nil)))
    (pss_one (ps_set (i := 2) sc__law_numbers.nd rfl (Or.inl rfl) (pe_op op_fdiv (pv 2) pe_int))))
    (pss_cons (ps_set (i := 6) sc__law_numbers.nd rfl (Or.inl rfl) (pe_op op_mod (pe_callTy call_int1 (by rfl) nb.int (by decide +kernel) (pa_cons (pe_op op_add (pe_op op_add (pe_op op_mul (pv 3) pe_int) (pe_op op_mul (pv 5) pe_int)) pe_int) pa_nil)) pe_int))
    (pss_cons (ps_set (i := 6) sc__law_numbers.nd rfl (Or.inl rfl) (pe_op op_mod (pe_callTy call_int1 (by rfl) nb.int (by decide +kernel) (pa_cons (pe_op op_add (pe_op op_add (pe_op op_mul (pv 6) (pv 6)) (pe_op op_mul pe_int (pv 5))) pe_int) pa_nil)) pe_int))
    (pss_one (ps_expr (pe_bm PySem.F.plainAttrs_list PySem.F.slot_list_append PySem.F.type_list_append mt_append (pv 4) (pa_cons (pe_op op_mod (pe_callTy call_int1 (by rfl) nb.int (by decide +kernel) (pa_cons (pe_op op_fdiv (pv 6) pe_int) pa_nil)) pe_int) pa_nil)))))))))
    (pss_one (ps_ret (pv 4))))))), ?_⟩)
  obtain ⟨_, _, rfl, z, n, rfl, rfl, hn, h⟩ := h
  walk_at "rd"
  refine ⟨Nat.zero_le _, fun p hp => ?_⟩
  walk_at "rd"
  refine r_turns (by omega) (by omega) (fun i σ H' => ∃ (rest size : Int) (xs : List Int) (k mx : Option V), σ = [some (.int z), some (.int (n : Int)), some (.int rest), some (.int size), some (.ref p), k, mx] ∧ xs.length = i ∧ H' = upd H p (.lst (xs.map V.int))) ⟨_, _, [], none, none, rfl, rfl, rfl⟩ ?_ ?_
  · rintro i σ _ hi ⟨rest, size, xs, k, mx, rfl, hl, rfl⟩
    have hsz : (xs.map V.int).length < sizeLine := small1000 (by rw [List.length_map]; omega)
    have app : ∀ y : Int, upd (upd H p (.lst (xs.map V.int))) p (.lst (xs.map V.int ++ [.int y])) = upd H p (.lst ((xs ++ [y]).map V.int)) := fun y => by
      rw [upd_upd, List.map_append]
      rfl
    have two : ∀ r : Int, ∀ (σ' : St) (k mx : Option V) (rest size : Int), σ' = [some (.int z), some (.int (n : Int)), some (.int rest), some (.int size), some (.ref p), k, mx] → ∃ (rest size : Int) (xs' : List Int) (k mx : Option V), σ' = [some (.int z), some (.int (n : Int)), some (.int rest), some (.int size), some (.ref p), k, mx] ∧ xs'.length = i + 1 ∧ upd (upd H p (.lst (xs.map V.int))) p (.lst (xs.map V.int ++ [.int r])) = upd H p (.lst (xs'.map V.int)) := fun r σ' k mx rest size e =>
      ⟨rest, size, xs ++ [r], k, mx, e, by rw [List.length_append, hl]; rfl, app r⟩
    walk_at "rd"
    refine r_ite (fun c1 => ?_) (fun c1 => ?_)
    · walk_at "rd"
      refine r_ite (fun c2 => ?_) (fun c2 => ?_)
      · walk_at "rd"
        refine ⟨tyL upd_same, ?_⟩
        walk_at "rd"
        refine r_app upd_same hsz ?_
        walk_at "rd"
        exact two _ _ _ _ _ _ rfl
      · walk_at "rd"
        refine r_I (.inl ⟨by omega, by omega⟩) ?_
        walk_at "rd"
        refine ⟨tyL upd_same, ?_⟩
        walk_at "rd"
        refine r_app upd_same hsz ?_
        walk_at "rd"
        exact two _ _ _ _ _ _ rfl
    · walk_at "rd"
      refine r_I (.inl ⟨by omega, by omega⟩) ?_
      walk_at "rd"
      refine ⟨tyL upd_same, ?_⟩
      walk_at "rd"
      refine r_app upd_same hsz ?_
      walk_at "rd"
      exact two _ _ _ _ _ _ rfl
  · rintro σ _ ⟨rest, size, xs, k, mx, rfl, hl, rfl⟩
    walk_at "rd"
    exact h p xs hp (by omega)
theorem ok__law_next (F : FunD K "_law_next" "_law_next" (defArgs s__law_next) (defBody s__law_next) (defScope s__law_next) [] [] (glAd "_law_next" K) fd) (m : mg "_law_next" = some (.ref (glAd "_law_next" K))) (nb : Nm K mg) : Cal P w K mg base 1 "_law_next" (sp__law_next K) [] := by
  refine calD F m sc__law_next (fun _ _ _ _ _ _ us hl => match us, hl with | [_, _], _ => rfl) len2 (fun cdv A outer s H vs Q E hr h => ⟨_, (pss_cons (ps_set (i := 2) sc__law_next.nd rfl (Or.inl rfl) (pe_ix ix_list (pv 0) pe_int (fun _ _ => rfl)))
    (pss_cons (ps_asg (pe_op op_add (pv 2) pe_int) (pg_sub (pv 0) pe_int set_list))
    (pss_one (ps_ret (pe_op op_mod (pe_callTy call_int1 (by rfl) nb.int (by decide +kernel) (pa_cons (pe_op op_add (pe_ix ix_list (pe_ix ix_list (pv 0) pe_int (fun _ _ => rfl)) (pe_op op_mod (pv 2) pe_int) (fun _ _ => rfl)) (pe_op op_mul pe_int (pe_op op_fdiv (pv 2) pe_int))) pa_nil)) (pv 1)))))), ?_⟩)
  obtain ⟨_, _, rfl, S, mm, rfl, rfl, h0, L, h⟩ := h
  obtain ⟨k, l, f5, e⟩ := L.st
  walk_at "rd"
  refine r_ixL (SqL.of e) rfl ?_
  walk_at "rd"
  refine r_setL e rfl ?_
  walk_at "rd"
  have L2 := L.put (k + 1) l f5
  obtain ⟨v, _, ev⟩ := atI_ints (ns := S.nums) (k := k % 120) (by omega) (by rw [L.len]; omega)
  refine r_ixL (SqL.of upd_same) rfl ?_
  walk_at "rd"
  refine r_ixL (SqL.of L2.nm) ev ?_
  walk_at "rd"
  refine r_I h0 ?_
  exact h _ _ (Int.emod_nonneg _ (by omega)) (Int.emod_lt_of_pos _ h0) L2 (Keep.put _)
theorem ok__law_big (F : FunD K "_law_big" "_law_big" (defArgs s__law_big) (defBody s__law_big) (defScope s__law_big) [] [] (glAd "_law_big" K) fd) (m : mg "_law_big" = some (.ref (glAd "_law_big" K))) (nb : Nm K mg) (c__law_cell : Cal P w K mg base 1 "_law_cell" (sp__law_cell K) []) (c__law_next : Cal P w K mg base 1 "_law_next" (sp__law_next K) []) : Cal P w K mg base 2 "_law_big" (sp__law_big K) [] := by
  refine calD F m sc__law_big (fun _ _ _ _ _ _ us hl => match us, hl with | [_, _], _ => rfl) len2 (fun cdv A outer s H vs Q E hr h => ⟨_, (pss_cons (ps_set (i := 2) sc__law_big.nd rfl (Or.inl rfl) (pe_callB call_abs (by rfl) nb.abs (by decide +kernel) (pa_cons (pe_c c__law_cell hr (by decide) rfl (pa_cons (pe_ix ix_list (pv 0) pe_int (fun _ _ => rfl)) (pa_cons (pe_op op_add pe_int (pe_c c__law_next hr (by decide) rfl (pa_cons (pv 0) (pa_cons pe_int pa_nil)))) pa_nil))) pa_nil)))
    (pss_one (ps_ret (pe_op op_mod (pe_callTy call_int1 (by rfl) nb.int (by decide +kernel) (pa_cons (pe_op op_add (pe_op op_mul (pv 2) pe_int) (pe_c c__law_next hr (by decide) rfl (pa_cons (pv 0) (pa_cons pe_int pa_nil)))) pa_nil)) (pv 1))))), ?_⟩)
  obtain ⟨_, _, rfl, S, mm, rfl, rfl, h0, L, h⟩ := h
  obtain ⟨k, l, f5, e⟩ := L.st
  walk_at "rd"
  refine r_ixL (SqL.of e) rfl ?_
  walk_at "rd"
  refine ⟨_, _, rfl, S, _, rfl, rfl, by decide, L, fun r1 H1 a1 b1 L1 K1 => ?_⟩
  walk_at "rd"
  refine ⟨_, _, rfl, S.sl, S.ns, _, rfl, rfl, L1.scr, by omega, fun z => ?_⟩
  walk_at "rd"
  refine ⟨_, _, rfl, S, _, rfl, rfl, by decide, L1, fun r2 H2 a2 b2 L2 K2 => ?_⟩
  walk_at "rd"
  refine r_I h0 ?_
  exact h _ _ (Int.emod_nonneg _ (by omega)) (Int.emod_lt_of_pos _ h0) L2 (K1.trans K2)
theorem ok__law_state (F : FunD K "_law_state" "_law_state" (defArgs s__law_state) (defBody s__law_state) (defScope s__law_state) [] [] (glAd "_law_state" K) fd) (m : mg "_law_state" = some (.ref (glAd "_law_state" K))) (nb : Nm K mg) (c__law_cell : Cal P w K mg base 1 "_law_cell" (sp__law_cell K) []) (c__law_numbers : Cal P w K mg base 1 "_law_numbers" sp__law_numbers []) : Cal P w K mg base 2 "_law_state" (sp__law_state K) [] := by
  refine calD F m sc__law_state (fun _ _ _ _ _ _ us hl => match us, hl with | [_, _], _ => rfl) len2 (fun cdv A outer s H vs Q E hr h => ⟨_, (pss_cons (ps_set (i := 2) sc__law_state.nd rfl (Or.inl rfl) (pe_lst pa_nil))
    (pss_cons (ps_setLc (i := 4) (own := [("k", 3)]) (g := gName 3) (tt := tYes) rfl sc__law_state.nd rfl rfl (sw_true rfl rfl rfl (by decide +kernel)) (pi_range1 rfl nb.range (pa_cons pe_int pa_nil)) (blkOk_by (N := ["script", "left", "numbers", "k", "parted"]) (sc := defScope s__law_state) (by decide +kernel)) (fun _ _ _ _ _ => pg_name (i := 3) sc__law_state.nd rfl (Or.inl rfl)) (fun _ _ _ _ _ => pts_nil) (fun _ _ _ _ _ => (pe_c c__law_numbers hr (by decide) rfl (pa_cons (pe_c c__law_cell hr (by decide) rfl (pa_cons (pv 0) (pa_cons (pv 3) pa_nil))) (pa_cons pe_int pa_nil)))))
    (pss_cons (ps_for PassesOwn.never rfl (pi_range1 rfl nb.range (pa_cons pe_int pa_nil)) (pg_name (i := 3) sc__law_state.nd rfl (Or.inl rfl))
    (pss_cons (ps_expr (pe_bm PySem.F.plainAttrs_list PySem.F.slot_list_append PySem.F.type_list_append mt_append (pv 2) (pa_cons (pe_ix ix_list (pe_ix ix_list (pv 4) pe_int (fun _ _ => rfl)) (pv 3) (fun _ _ => rfl)) pa_nil)))
    (pss_cons (ps_expr (pe_bm PySem.F.plainAttrs_list PySem.F.slot_list_append PySem.F.type_list_append mt_append (pv 2) (pa_cons (pe_ix ix_list (pe_ix ix_list (pv 4) pe_int (fun _ _ => rfl)) (pv 3) (fun _ _ => rfl)) pa_nil)))
    (pss_one (ps_expr (pe_bm PySem.F.plainAttrs_list PySem.F.slot_list_append PySem.F.type_list_append mt_append (pv 2) (pa_cons (pe_ix ix_list (pe_ix ix_list (pv 4) pe_int (fun _ _ => rfl)) (pv 3) (fun _ _ => rfl)) pa_nil)))))))
    (pss_one (ps_ret (pe_lst (pa_cons (pv 2) (pa_cons pe_int (pa_cons (pv 1) (pa_cons (pv 0) (pa_cons pe_int pa_nil))))))))))), ?_⟩)
  obtain ⟨_, _, rfl, sl, ns, l, rfl, rfl, hs, h⟩ := h
  walk_at "rd"
  refine ⟨Nat.zero_le _, fun p hp => ?_⟩
  walk_at "rd"
  refine r_lcR 3 (by decide) (fun D hD => ?_) (fun R hR => hR)
  have sp0 := same_upd hp (.lst [])
  have pD : p ≠ D := fun e => by
    rw [← e, upd_same] at hD
    cases hD
  refine lc_range (fun i H' => ∃ ps : List Addr, H' D = some (.lst (ps.map V.ref)) ∧ ps.length = i ∧ (∀ q ∈ ps, q ≠ D ∧ ∃ xs : List Int, H' q = some (.lst (xs.map V.int)) ∧ xs.length = 40) ∧ Same (upd H p (.lst [])) H') ⟨[], upd_same, rfl, fun q hq => (by cases hq), same_upd hD _⟩ ?_ ?_
  · rintro i H' hi ⟨ps, e1, e2, e3, e4⟩
    walk_at "rd"
    refine ⟨rfl, ?_⟩
    walk_at "rd"
    have hs' : SqL K H' sl (ns.map V.int) := e4.seq (sp0.seq hs)
    refine ⟨_, _, rfl, sl, ns, _, rfl, rfl, hs', by omega, fun z => ?_⟩
    walk_at "rd"
    refine ⟨_, _, rfl, z, 40, rfl, rfl, by decide, fun q xs hq hx => ?_⟩
    have Dq : D ≠ q := ne_of_none e1 hq
    refine ⟨_, (upd_ne Dq).trans e1, small1000 (by rw [List.length_map]; omega), ps ++ [q], ?_, by rw [List.length_append, e2]; rfl, ?_, ?_⟩
    · rw [upd_same, List.map_append]
      rfl
    · intro q' hq'
      rcases List.mem_append.mp hq' with h1 | h1
      · obtain ⟨n1, xs', x1, x2⟩ := e3 q' h1
        exact ⟨n1, xs', by rw [upd_ne n1, upd_ne (ne_of_none x1 hq)]; exact x1, x2⟩
      · have e5 : q' = q := by simpa using h1
        subst e5
        exact ⟨Ne.symm Dq, xs, by rw [upd_ne (Ne.symm Dq), upd_same], hx⟩
    · intro b o hb
      have hb2 := e4 b o hb
      rw [upd_ne (ne_of_none hb hD), upd_ne (ne_of_none hb2 hq)]
      exact hb2
  · rintro H' ⟨ps, e1, e2, e3, e4⟩
    walk_at "rd"
    obtain ⟨p0, p1, p2, rfl⟩ : ∃ p0 p1 p2, ps = [p0, p1, p2] := match ps, e2 with | [a, b, c], _ => ⟨a, b, c, rfl⟩
    obtain ⟨_, x0, y0, z0⟩ := e3 p0 (by simp)
    obtain ⟨_, x1, y1, z1⟩ := e3 p1 (by simp)
    obtain ⟨_, x2, y2, z2⟩ := e3 p2 (by simp)
    have hp' : H' p = some (.lst []) := e4 _ _ upd_same
    have ne0 : ∀ {q : Addr} {xs : List Int}, H' q = some (.lst (xs.map V.int)) → xs.length = 40 → q ≠ p := fun {q xs} h1 h2 h3 => by
      rw [h3, hp'] at h1
      injection h1 with h1
      injection h1 with h1
      have h4 := congrArg List.length h1
      rw [List.length_map, h2] at h4
      cases h4
    have n0 := ne0 y0 z0
    have n1 := ne0 y1 z1
    have n2 := ne0 y2 z2
    have nD : D ≠ p := Ne.symm pD
    have fit : ∀ (xs : List Int) (i : Nat), xs.length = 40 → (i : Int) < 40 → ∃ v, atI (xs.map V.int) (i : Int) = some (.int v) := fun xs i h1 h2 => by
      obtain ⟨v, _, e⟩ := atI_ints (ns := xs) (k := (i : Int)) (by omega) (by omega)
      exact ⟨v, e⟩
    refine r_turns (by decide) (by decide) (fun i σ H2 => ∃ (zs : List Int) (kk : Option V), σ = [some (.ref sl), some (.int l), some (.ref p), kk, some (.ref D)] ∧ zs.length = 3 * i ∧ H2 = upd H' p (.lst (zs.map V.int))) ⟨[], none, rfl, rfl, ?_⟩ ?_ ?_
    · funext b
      by_cases c : b = p
      · subst c
        rw [upd_same, hp']
        rfl
      · rw [upd_ne c]
    · rintro i σ _ hi ⟨zs, kk, rfl, hz, rfl⟩
      obtain ⟨v0, a0⟩ := fit x0 i z0 hi
      obtain ⟨v1, a1⟩ := fit x1 i z1 hi
      obtain ⟨v2, a2⟩ := fit x2 i z2 hi
      walk_at "rd"
      refine ⟨tyL upd_same, ?_⟩
      walk_at "rd"
      refine r_ixL (SqL.of ((upd_ne nD).trans e1)) rfl ?_
      walk_at "rd"
      refine r_ixL (SqL.of ((upd_ne n0).trans y0)) a0 ?_
      walk_at "rd"
      refine r_app upd_same (small1000 (by rw [List.length_map]; omega)) ?_
      rw [upd_upd]
      walk_at "rd"
      refine ⟨tyL upd_same, ?_⟩
      walk_at "rd"
      refine r_ixL (SqL.of ((upd_ne nD).trans e1)) rfl ?_
      walk_at "rd"
      refine r_ixL (SqL.of ((upd_ne n1).trans y1)) a1 ?_
      walk_at "rd"
      refine r_app upd_same (small1000 (by rw [List.length_append, List.length_map]; show zs.length + 1 ≤ 1000; omega)) ?_
      rw [upd_upd]
      walk_at "rd"
      refine ⟨tyL upd_same, ?_⟩
      walk_at "rd"
      refine r_ixL (SqL.of ((upd_ne nD).trans e1)) rfl ?_
      walk_at "rd"
      refine r_ixL (SqL.of ((upd_ne n2).trans y2)) a2 ?_
      walk_at "rd"
      refine r_app upd_same (small1000 (by rw [List.length_append, List.length_append, List.length_map]; show zs.length + 1 + 1 ≤ 1000; omega)) ?_
      rw [upd_upd]
      exact ⟨zs ++ [v0] ++ [v1] ++ [v2], _, rfl, by simp [hz]; omega, by simp⟩
    · rintro σ _ ⟨zs, kk, rfl, hz, rfl⟩
      walk_at "rd"
      refine ⟨(by show 5 ≤ sizeLine; decide), fun a ha => ?_⟩
      have sa := same_upd ha (.lst [.ref p, .int 0, .int l, .ref sl, .int 3])
      have pa : p ≠ a := ne_of_none upd_same ha
      have all : Same H (upd H' p (.lst (zs.map V.int))) := fun b o hb => by
        rw [upd_ne (ne_of_none hb hp)]
        exact e4 _ _ (sp0 _ _ hb)
      have hsl : SqL K H sl (ns.map V.int) := hs
      refine h ⟨a, p, sl, zs, ns⟩ _ rfl rfl ⟨⟨0, l, 3, upd_same⟩, (upd_ne pa).trans upd_same, by rw [hz]; rfl, pa, sa.seq (all.seq hs)⟩ (all.trans sa) (all.free ha)
end

/-! ### draws -/
section
variable {K : PySem.W.Frag} {S : SC} {σ : St} {H : Hp} {Q : VK} {E : XK}
theorem d_next {m : Int} (L : LS K S H) (hm : 0 < m) (h : ∀ (r : Int) (H' : Hp), 0 ≤ r → r < m → LS K S H' → Keep S H H' → Q (.int r) H') : sp__law_next K ([.ref S.a, .int m] ++ []) H Q E := ⟨_, _, rfl, S, m, rfl, rfl, hm, L, h⟩
/-- a new object -/
theorem d_new {o : HO} {R : Addr → Hp → Prop} {c : Prop} (L : LS K S H) (hc : c) (h : ∀ (p : Addr) (H' : Hp), LS K S H' → Keep S H H' → Same H H' → H p = none → H' p = some o → p ≠ S.a → R p H') : c ∧ ∀ p, H p = none → R p (upd H p o) :=
  ⟨hc, fun p hp => h p _ (L.new hp o) (Keep.of (same_upd hp o)) (same_upd hp o) hp upd_same (L.ne_free hp)⟩
theorem d_newI {zs : List Int} {R : Addr → Hp → Prop} {c : Prop} (L : LS K S H) (hc : c) (h : ∀ (p : Addr) (H' : Hp), LS K S H' → Keep S H H' → Same H H' → H p = none → H' p = some (.lst (zs.map V.int)) → p ≠ S.a → R p H') : c ∧ ∀ p, H p = none → R p (upd H p (.lst (zs.map V.int))) := d_new L hc h
/-- [x, y, ..][_law_next(state, n)] -/
theorem d_pick {xs : List V} {n : Int} {i : Nat} (L : LS K S H) (e : σ[i]? = some (some (.ref S.a))) (hl : xs.length ≤ sizeLine) (hn : 0 < n) (hx : (xs.length : Int) = n)
    (h : ∀ (v : V) (H' : Hp), v ∈ xs → LS K S H' → Keep S H H' → Q v H') :
    xs.length ≤ sizeLine ∧ ∀ p, H p = none → tCall (sp__law_next K) [] E (tCons (tVar i) (tCons (tC (.int n)) tNil)) σ (upd H p (.lst xs)) fun y H2 => rIxL K (.ref p) y H2 Q := by
  refine ⟨hl, fun p hp => ⟨_, e, ?_⟩⟩
  show sp__law_next K ([.ref S.a, .int n] ++ []) (upd H p (.lst xs)) (fun y H2 => rIxL K (.ref p) y H2 Q) E
  refine d_next (L.new hp _) hn fun r H' h0 h1 L' k => ?_
  have hr : r.toNat < xs.length := by omega
  have er : r = ((r.toNat : Nat) : Int) := by omega
  refine ⟨p, xs, r, xs[r.toNat], rfl, rfl, SqL.of (k _ _ (L.ne_free hp) upd_same), ?_, ?_⟩
  · have q := atI_nat (xs := xs) (j := r.toNat) (v := xs[r.toNat]) (List.getElem?_eq_getElem hr)
    rw [← er] at q
    exact q
  · exact h _ _ (List.getElem_mem hr) L' ((Keep.of (same_upd hp _)).trans k)
/-- the same, all of them numbers from lo to hi -/
theorem d_pickI {xs : List V} {n : Int} {i : Nat} (lo hi : Int) (L : LS K S H) (e : σ[i]? = some (some (.ref S.a))) (hl : xs.length ≤ sizeLine) (hn : 0 < n) (hx : (xs.length : Int) = n) (hz : ∀ v ∈ xs, ∃ z, v = V.int z ∧ lo ≤ z ∧ z ≤ hi)
    (h : ∀ (z : Int) (H' : Hp), lo ≤ z → z ≤ hi → V.int z ∈ xs → LS K S H' → Keep S H H' → Q (.int z) H') :
    xs.length ≤ sizeLine ∧ ∀ p, H p = none → tCall (sp__law_next K) [] E (tCons (tVar i) (tCons (tC (.int n)) tNil)) σ (upd H p (.lst xs)) fun y H2 => rIxL K (.ref p) y H2 Q :=
  d_pick L e hl hn hx fun v H' hv L' k => by
    obtain ⟨z, rfl, h1, h2⟩ := hz v hv
    exact h z H' h1 h2 hv L' k
theorem all_nil {p : V → Prop} : ∀ v ∈ ([] : List V), p v := fun v hv => by cases hv
theorem all_cons {p : V → Prop} {x : V} {xs : List V} (h : p x) (t : ∀ v ∈ xs, p v) : ∀ v ∈ x :: xs, p v := fun v hv => by
  rcases List.mem_cons.mp hv with e | e
  · rw [e]
    exact h
  · exact t v e
end

/-! ### the program's UTF-8 -/
section
variable {σ : St} {H : Hp} {n b c : St → Hp → Prop} {r : VK} {Q : VK} {K : Frg} {a C dx : Addr} {fs : List (Str × V)} {f : Str} {v : V}
theorem r_fsetK {R : Hp → Prop} {fs' : List (Str × V)} (h : H a = some (.ins C dx fs)) (cl : Cls K C) (na : NoAttr K C f) (hl : fs.length < 1000) (e : putF f v fs = fs') (q : ∀ H', H' a = some (.ins C dx fs') → (∀ b, b ≠ a → H' b = H b) → R H') :
    ∃ a' C dx fs, V.ref a = .ref a' ∧ H a' = some (.ins C dx fs) ∧ Cls K C ∧ NoAttr K C f ∧ fs.length < 1000 ∧ R (upd H a' (.ins C dx (putF f v fs))) := r_fset h cl na hl e (q _ upd_same fun _ hb => upd_ne hb)
theorem r_appK {p : Addr} {xs : List V} {y : V} (h : H p = some (.lst xs)) (hl : xs.length < sizeLine) (q : ∀ H', H' p = some (.lst (xs ++ [y])) → (∀ b, b ≠ p → H' b = H b) → Q .non H') : rAppend (.ref p) [y] H Q := r_app h hl (q _ upd_same fun _ hb => upd_ne hb)
end
def enc1 (c : Int) : List Int :=
  if c < 128 then [c] else if c < 2048 then [192 + c / 64, 128 + c % 64] else if c < 65536 then [224 + c / 4096, 128 + c / 64 % 64, 128 + c % 64]
  else [240 + c / 262144, 128 + c / 4096 % 64, 128 + c / 64 % 64, 128 + c % 64]
def encs (cs : List Int) : List Int := cs.flatMap enc1
structure U8 where
  ps : List Int
  ms : Int
  wo : Int
  le : Int
  mo : Int
def u80 : U8 := ⟨[], 0, 0, 128, 191⟩
def U8At (K : Frg) (H : Hp) (a l : Addr) (s : U8) : Prop := ∃ dx, H a = some (.ins (C_Utf8 K) dx (fs_Utf8 (.ref l) (.int s.ms) (.int s.wo) (.int s.le) (.int s.mo))) ∧ H l = some (.lst (s.ps.map V.int))
def But (a l : Addr) (H H' : Hp) : Prop := ∀ b u, b ≠ a → b ≠ l → H b = some u → H' b = some u
def u8go (s : U8) (b : Int) : Bool × U8 :=
  if s.le ≤ b ∧ b ≤ s.mo then (true, ⟨if s.ms - 1 = 0 then s.ps ++ [s.wo * 64 + b - 128] else s.ps, s.ms - 1, s.wo * 64 + b - 128, 128, 191⟩) else (false, s)
structure U8R where
  f : Int
  l : Int
  m : Int
  le : Int
  mo : Int
def rows8 : List U8R := [⟨194, 223, 1, 128, 191⟩, ⟨224, 224, 2, 160, 191⟩, ⟨225, 236, 2, 128, 191⟩, ⟨237, 237, 2, 128, 159⟩, ⟨238, 239, 2, 128, 191⟩, ⟨240, 240, 3, 144, 191⟩, ⟨241, 243, 3, 128, 191⟩, ⟨244, 244, 3, 128, 143⟩]
def U8R.dat (r : U8R) : PyData := .tuple [.int r.f, .int r.l, .int r.m, .int r.le, .int r.mo]
def U8R.is (r : U8R) (b : Int) : Bool := decide (r.f ≤ b ∧ b ≤ r.l)
def mark8 (m : Int) : Int := if m = 1 then 192 else if m = 2 then 224 else 240
def u8start (s : U8) (b : Int) : Bool × U8 :=
  match rows8.find? (·.is b) with
  | some r => (true, ⟨s.ps, r.m, b - mark8 r.m, r.le, r.mo⟩)
  | none => (false, s)
def u8take (s : U8) (b : Int) : Bool × U8 := if s.ms > 0 then u8go s b else if b < 128 then (true, { s with ps := s.ps ++ [b] }) else u8start s b
/-- a list or tuple of numbers at a -/
def RowAt (H : Hp) (a : Addr) (zs : List Int) : Prop := H a = some (.lst (zs.map V.int)) ∨ H a = some (.tup (zs.map V.int))
def Point (c : Int) : Prop := 0 ≤ c ∧ c ≤ 1114111 ∧ (c < 55296 ∨ 57344 ≤ c)
def sp__encode_long (K : Frg) : Sp := sp1 fun p H Q _ => ∃ c, p = .int c ∧ 128 ≤ c ∧ c ≤ 1114111 ∧ ∀ l H', H l = none → H' l = some (.lst ((enc1 c).map V.int)) → Same H H' → Q (.ref l) H'
def sp_encode (K : Frg) : Sp := sp1 fun p H Q _ => ∃ a cs, p = .ref a ∧ RowAt H a cs ∧ (∀ c ∈ cs, Point c) ∧ 4 * cs.length < sizeLine ∧ ∀ l H', H l = none → H' l = some (.lst ((encs cs).map V.int)) → Same H H' → Q (.ref l) H'
def sp_Utf8___init__ (K : Frg) : Sp := sp1 fun p H Q _ => ∃ a dx, p = .ref a ∧ H a = some (.ins (C_Utf8 K) dx []) ∧ ∀ l H', H l = none → l ≠ a → U8At K H' a l u80 → (∀ b u, b ≠ a → H b = some u → H' b = some u) → Q .non H'
def sp_Utf8_is_open (K : Frg) : Sp := sp1 fun p H Q _ => ∃ a l s, p = .ref a ∧ U8At K H a l s ∧ Q (.bl (decide (s.ms > 0))) H
def SpU (K : Frg) (f : U8 → Int → Bool × U8) : Sp := sp2 fun p o H Q _ => ∃ a l s b, p = .ref a ∧ o = .int b ∧ U8At K H a l s ∧ s.ps.length < sizeLine ∧ ∀ H', U8At K H' a l (f s b).2 → But a l H H' → Q (.bl (f s b).1) H'
def sp_Utf8__go_on (K : Frg) : Sp := SpU K u8go
def sp_Utf8__begin (K : Frg) : Sp := SpU K u8start
def sp_Utf8_take (K : Frg) : Sp := SpU K u8take
abbrev s__encode_long : Stmt := (top 4)
theorem sc__encode_long : FnScope ["point", "many", "octets", "shift"] ["point"] (defScope s__encode_long) := ⟨rfl, rfl, rfl, by decide +kernel, rfl, by decide +kernel, by decide +kernel⟩
abbrev s_encode : Stmt := (top 3)
theorem sc_encode : FnScope ["points", "octets", "point"] ["points"] (defScope s_encode) := ⟨rfl, rfl, rfl, by decide +kernel, rfl, by decide +kernel, by decide +kernel⟩
abbrev s_Utf8___init__ : Stmt := (inClass (top 5) 0)
theorem sc_Utf8___init__ : FnScope ["self"] ["self"] (defScope s_Utf8___init__) := ⟨rfl, rfl, rfl, by decide +kernel, rfl, by decide +kernel, by decide +kernel⟩
abbrev s_Utf8_is_open : Stmt := (inClass (top 5) 1)
theorem sc_Utf8_is_open : FnScope ["self"] ["self"] (defScope s_Utf8_is_open) := ⟨rfl, rfl, rfl, by decide +kernel, rfl, by decide +kernel, by decide +kernel⟩
abbrev s_Utf8__go_on : Stmt := (inClass (top 5) 4)
theorem sc_Utf8__go_on : FnScope ["self", "octet"] ["self", "octet"] (defScope s_Utf8__go_on) := ⟨rfl, rfl, rfl, by decide +kernel, rfl, by decide +kernel, by decide +kernel⟩
abbrev s_Utf8__begin : Stmt := (inClass (top 5) 3)
theorem sc_Utf8__begin : FnScope ["self", "octet", "first", "last", "many", "least", "most"] ["self", "octet"] (defScope s_Utf8__begin) := ⟨rfl, rfl, rfl, by decide +kernel, rfl, by decide +kernel, by decide +kernel⟩
abbrev s_Utf8_take : Stmt := (inClass (top 5) 2)
theorem sc_Utf8_take : FnScope ["self", "octet"] ["self", "octet"] (defScope s_Utf8_take) := ⟨rfl, rfl, rfl, by decide +kernel, rfl, by decide +kernel, by decide +kernel⟩
theorem u8_ne {K : Frg} {H : Hp} {a l : Addr} {s : U8} (h : U8At K H a l s) : l ≠ a := by
  obtain ⟨dx, h1, h2⟩ := h
  rintro rfl
  rw [h1] at h2
  cases h2
theorem map_snoc (ps : List Int) (x : Int) : ps.map V.int ++ [V.int x] = (ps ++ [x]).map V.int := by simp
section
variable {P : Program} {w : World} {K : PySem.W.Frag} {mg : Str → Option Value} {base : Heap} {f : Addr} {fd : FuncData}
theorem ok_Utf8__go_on (F : FunD K "_go_on" "Utf8._go_on" (defArgs s_Utf8__go_on) (defBody s_Utf8__go_on) (defScope s_Utf8__go_on) [] [] (meAd "Utf8" "_go_on" K) fd) (nb : Nm K mg) : Met P w K mg base 1 (C_Utf8 K) "_go_on" (sp_Utf8__go_on K) [] := by
  refine metD F nb.cl_Utf8 nb.me_Utf8__go_on sc_Utf8__go_on (fun _ _ _ _ _ _ us hl => match us, hl with | [_, _], _ => rfl) len2 (fun cdv A outer s H vs Q E hr h => ⟨_, (pss_cons (ps_if (pt_not (pt_chain op_le op_le (pe_fld (pv 0) rfl) (pv 1) (pe_fld (pv 0) rfl)))
    (pss_one (ps_ret pe_bl))
    pss_nil)
    (pss_cons (ps_fld (pv 0) (pe_op op_sub (pe_op op_add (pe_op op_mul (pe_fld (pv 0) rfl) pe_int) (pv 1)) pe_int) rfl)
    (pss_cons (ps_fld (pv 0) pe_int rfl)
    (pss_cons (ps_fld (pv 0) pe_int rfl)
    (pss_cons (ps_fld (pv 0) (pe_op op_sub (pe_fld (pv 0) rfl) pe_int) rfl)
    (pss_cut (ps_if (pt_cmpR op_eq (pe_fld (pv 0) rfl) pe_int (nomark _))
    (pss_one (ps_expr (pe_bm PySem.F.plainAttrs_list PySem.F.slot_list_append PySem.F.type_list_append mt_append (pe_fld (pv 0) rfl) (pa_cons (pe_fld (pv 0) rfl) pa_nil))))
    pss_nil)
    (pss_one (ps_ret pe_bl)))))))), ?_⟩)
  obtain ⟨_, _, rfl, a, l, s, b, rfl, rfl, hU, hl, h⟩ := h
  have hne := u8_ne hU
  obtain ⟨dx, hA, hL⟩ := id hU
  walk_at "rd"
  refine r_fget hA nb.cl_Utf8 nb.na_Utf8__least lk_Utf8__least ?_
  walk_at "rd"
  have no : (¬ (s.le ≤ b ∧ b ≤ s.mo)) → Q (.bl false) H := fun c => by
    have e : u8go s b = (false, s) := by
      unfold u8go
      rw [if_neg c]
    rw [e] at h
    exact h H hU (fun _ _ _ _ z => z)
  refine r_ite (fun c1 => ?_) (fun c1 => ?_)
  · walk_at "rd"
    refine r_fget hA nb.cl_Utf8 nb.na_Utf8__most lk_Utf8__most ?_
    walk_at "rd"
    refine r_iten (fun c2 => ?_) (fun c2 => ?_)
    · walk_at "rd"
      exact no fun z => c2 z.2
    have e : u8go s b = (true, ⟨if s.ms - 1 = 0 then s.ps ++ [s.wo * 64 + b - 128] else s.ps, s.ms - 1, s.wo * 64 + b - 128, 128, 191⟩) := by
      unfold u8go
      rw [if_pos ⟨c1, c2⟩]
    rw [e] at h
    walk_at "rd"
    refine r_fget hA nb.cl_Utf8 nb.na_Utf8__worth lk_Utf8__worth ?_
    walk_at "rd"
    walk_at "rd"
    refine r_fsetK hA nb.cl_Utf8 nb.na_Utf8__worth (few_Utf8) pt_Utf8__worth fun H1 hA1 f1 => ?_
    walk_at "rd"
    refine r_fsetK hA1 nb.cl_Utf8 nb.na_Utf8__least (few_Utf8) pt_Utf8__least fun H2 hA2 f2 => ?_
    walk_at "rd"
    refine r_fsetK hA2 nb.cl_Utf8 nb.na_Utf8__most (few_Utf8) pt_Utf8__most fun H3 hA3 f3 => ?_
    walk_at "rd"
    refine r_fget hA3 nb.cl_Utf8 nb.na_Utf8__missing lk_Utf8__missing ?_
    walk_at "rd"
    refine r_fsetK hA3 nb.cl_Utf8 nb.na_Utf8__missing (few_Utf8) pt_Utf8__missing fun H4 hA4 f4 => ?_
    have hL4 : H4 l = some (.lst (s.ps.map V.int)) := by rw [f4 l hne, f3 l hne, f2 l hne, f1 l hne]; exact hL
    have b4 : But a l H H4 := fun p u p1 p2 z => by rw [f4 p p1, f3 p p1, f2 p p1, f1 p p1]; exact z
    refine r_cut (fun _ H' => U8At K H' a l ⟨if s.ms - 1 = 0 then s.ps ++ [s.wo * 64 + b - 128] else s.ps, s.ms - 1, s.wo * 64 + b - 128, 128, 191⟩ ∧ But a l H H') ?_ ?_
    · walk_at "rd"
      refine r_fget hA4 nb.cl_Utf8 nb.na_Utf8__missing lk_Utf8__missing ?_
      walk_at "rd"
      refine r_ite (fun c3 => ?_) (fun c3 => ?_)
      · walk_at "rd"
        refine r_fget hA4 nb.cl_Utf8 nb.na_Utf8_points lk_Utf8_points ?_
        refine ⟨tyL hL4, ?_⟩
        walk_at "rd"
        refine r_fget hA4 nb.cl_Utf8 nb.na_Utf8__worth lk_Utf8__worth ?_
        walk_at "rd"
        refine r_appK hL4 (by simpa using hl) fun H5 hL5 f5 => ?_
        rw [if_pos c3]
        refine ⟨⟨dx, ?_, ?_⟩, fun p u p1 p2 z => ?_⟩
        · rw [f5 a (Ne.symm hne)]
          exact hA4
        · rw [hL5, map_snoc]
        · rw [f5 p p2]
          exact b4 p u p1 p2 z
      · walk_at "rd"
        rw [if_neg c3]
        exact ⟨⟨dx, hA4, hL4⟩, b4⟩
    rintro σ' H' ⟨g1, g2⟩
    walk_at "rd"
    exact h _ g1 g2
  · walk_at "rd"
    exact no fun z => c1 z.1
theorem ok_Utf8_is_open (F : FunD K "is_open" "Utf8.is_open" (defArgs s_Utf8_is_open) (defBody s_Utf8_is_open) (defScope s_Utf8_is_open) [] [] (prAd "Utf8" "is_open" K) fd) (nb : Nm K mg) : Prp P w K mg base 1 (C_Utf8 K) "is_open" (sp_Utf8_is_open K) := by
  refine prpD F nb.cl_Utf8 nb.pr_Utf8_is_open sc_Utf8_is_open (fun _ _ _ _ _ _ us hl => match us, hl with | [_], _ => rfl) len1 (fun cdv A outer s H vs Q E hr h => ⟨_, (pss_one (ps_ret (pe_cmpR op_gt (pe_fld (pv 0) rfl) pe_int (nomark _)))), ?_⟩)
  obtain ⟨_, rfl, a, l, s, rfl, ⟨dx, hA, hL⟩, h⟩ := h
  walk_at "rd"
  refine r_fget hA nb.cl_Utf8 nb.na_Utf8__missing lk_Utf8__missing ?_
  walk_at "rd"
  exact h
theorem ok_Utf8___init__ (F : FunD K "__init__" "Utf8.__init__" (defArgs s_Utf8___init__) (defBody s_Utf8___init__) (defScope s_Utf8___init__) [] [] (meAd "Utf8" "__init__" K) fd) (nb : Nm K mg) : Mak P w K mg base 1 "Utf8" (C_Utf8 K) (sp_Utf8___init__ K) [] := by
  refine makD F nb.mk_Utf8 nb.g_Utf8 sc_Utf8___init__ (fun _ _ _ _ _ _ us hl => match us, hl with | [_], _ => rfl) len1 (fun cdv A outer s H vs Q E hr h => ⟨_, (pss_cons (ps_fld (pv 0) (pe_lst pa_nil) rfl)
    (pss_cons (ps_fld (pv 0) pe_int rfl)
    (pss_cons (ps_fld (pv 0) pe_int rfl)
    (pss_cons (ps_fld (pv 0) pe_int rfl)
    (pss_one (ps_fld (pv 0) pe_int rfl)))))), ?_⟩)
  obtain ⟨_, rfl, a, dx, rfl, hA, h⟩ := h
  walk_at "rd"
  refine ⟨by show 0 ≤ sizeLine; decide, fun l hl => ?_⟩
  have hne : l ≠ a := fun z => by rw [z, hA] at hl; cases hl
  have hA0 : upd H l (.lst []) a = some (.ins (C_Utf8 K) dx []) := (upd_ne (Ne.symm hne)).trans hA
  have hL0 : upd H l (.lst []) l = some (.lst []) := upd_same
  have f0 : ∀ b u, b ≠ a → H b = some u → upd H l (.lst []) b = some u := fun b u h1 h2 => same_upd hl _ b u h2
  generalize upd H l (.lst []) = H0 at hA0 hL0 f0 ⊢
  walk_at "rd"
  refine r_fsetK hA0 nb.cl_Utf8 nb.na_Utf8_points (by decide) (in_Utf8_points) fun H1 hA1 f1 => ?_
  walk_at "rd"
  refine r_fsetK hA1 nb.cl_Utf8 nb.na_Utf8__missing (by simp) (in_Utf8__missing) fun H2 hA2 f2 => ?_
  walk_at "rd"
  refine r_fsetK hA2 nb.cl_Utf8 nb.na_Utf8__worth (by simp) (in_Utf8__worth) fun H3 hA3 f3 => ?_
  walk_at "rd"
  refine r_fsetK hA3 nb.cl_Utf8 nb.na_Utf8__least (by simp) (in_Utf8__least) fun H4 hA4 f4 => ?_
  walk_at "rd"
  refine r_fsetK hA4 nb.cl_Utf8 nb.na_Utf8__most (by simp) (in_Utf8__most) fun H5 hA5 f5 => ?_
  refine h l H5 hl hne ⟨dx, hA5, ?_⟩ fun p u p1 z => ?_
  · rw [f5 l hne, f4 l hne, f3 l hne, f2 l hne, f1 l hne]
    exact hL0
  · rw [f5 p p1, f4 p p1, f3 p p1, f2 p p1, f1 p p1]
    exact f0 p u p1 z
theorem ok_Utf8_take (F : FunD K "take" "Utf8.take" (defArgs s_Utf8_take) (defBody s_Utf8_take) (defScope s_Utf8_take) [] [] (meAd "Utf8" "take" K) fd) (nb : Nm K mg) (m_Utf8__begin : Met P w K mg base 1 (C_Utf8 K) "_begin" (sp_Utf8__begin K) []) (m_Utf8__go_on : Met P w K mg base 1 (C_Utf8 K) "_go_on" (sp_Utf8__go_on K) []) : Met P w K mg base 2 (C_Utf8 K) "take" (sp_Utf8_take K) [] := by
  refine metD F nb.cl_Utf8 nb.me_Utf8_take sc_Utf8_take (fun _ _ _ _ _ _ us hl => match us, hl with | [_, _], _ => rfl) len2 (fun cdv A outer s H vs Q E hr h => ⟨_, (pss_cons (ps_if (pt_cmpR op_gt (pe_fld (pv 0) rfl) pe_int (nomark _))
    (pss_one (ps_ret (pe_mt m_Utf8__go_on hr (by decide) (pv 0) (pa_cons (pv 1) pa_nil))))
    pss_nil)
    (pss_cons (ps_if (pt_cmpR op_lt (pv 1) pe_int (nomark _))
    (pss_cons (ps_expr (pe_bm PySem.F.plainAttrs_list PySem.F.slot_list_append PySem.F.type_list_append mt_append (pe_fld (pv 0) rfl) (pa_cons (pv 1) pa_nil)))
    (pss_one (ps_ret pe_bl)))
    pss_nil)
    (pss_one (ps_ret (pe_mt m_Utf8__begin hr (by decide) (pv 0) (pa_cons (pv 1) pa_nil)))))), ?_⟩)
  obtain ⟨_, _, rfl, a, l, s, b, rfl, rfl, hU, hl, h⟩ := h
  have hne := u8_ne hU
  obtain ⟨dx, hA, hL⟩ := id hU
  walk_at "rd"
  refine r_fget hA nb.cl_Utf8 nb.na_Utf8__missing lk_Utf8__missing ?_
  walk_at "rd"
  unfold u8take at h
  refine r_ite (fun c1 => ?_) (fun c1 => ?_)
  · rw [if_pos c1] at h
    walk_at "rd"
    refine r_mget hA no_Utf8__go_on ?_
    walk_at "rd"
    exact ⟨_, _, rfl, a, l, s, b, rfl, rfl, hU, hl, h⟩
  · rw [if_neg c1] at h
    walk_at "rd"
    refine r_ite (fun c2 => ?_) (fun c2 => ?_)
    · rw [if_pos c2] at h
      walk_at "rd"
      refine r_fget hA nb.cl_Utf8 nb.na_Utf8_points lk_Utf8_points ?_
      refine ⟨tyL hL, ?_⟩
      walk_at "rd"
      refine r_appK hL (by simpa using hl) fun H5 hL5 f5 => ?_
      walk_at "rd"
      refine h H5 ⟨dx, ?_, ?_⟩ fun p u p1 p2 z => ?_
      · rw [f5 a (Ne.symm hne)]
        exact hA
      · rw [hL5, map_snoc]
      · rw [f5 p p2]
        exact z
    · rw [if_neg c2] at h
      walk_at "rd"
      refine r_mget hA no_Utf8__begin ?_
      walk_at "rd"
      exact ⟨_, _, rfl, a, l, s, b, rfl, rfl, hU, hl, h⟩
end

section
variable {K : PySem.W.Frag} {H : Hp}
theorem dp_tup {v : V} {ds : List PyData} (h : Dp K H v (.tuple ds)) : ∃ a xs, v = .ref a ∧ SqT K H a xs ∧ DpAll K H xs ds := by
  cases h
  exact ⟨_, _, rfl, by assumption, by assumption⟩
theorem dp_get : ∀ {xs : List V} {ds : List PyData} {i : Nat} {x : V}, DpAll K H xs ds → xs[i]? = some x → ∃ d, ds[i]? = some d ∧ Dp K H x d
  | [], _, _, _, _, e => by cases e
  | x :: xs, _, 0, _, .cons h t, e => by
    cases e
    exact ⟨_, rfl, h⟩
  | x :: xs, _, i + 1, _, .cons h t, e => by
    obtain ⟨d, e1, h1⟩ := dp_get (i := i) t e
    exact ⟨d, e1, h1⟩
theorem dp_len : ∀ {xs : List V} {ds : List PyData}, DpAll K H xs ds → xs.length = ds.length
  | [], _, .nil => rfl
  | _ :: _, _, .cons _ t => congrArg (· + 1) (dp_len t)
theorem dp_ints : ∀ {xs : List V} (ns : List Int), DpAll K H xs (ns.map PyData.int) → xs = ns.map V.int
  | _, [], h => by
    cases h
    rfl
  | _, n :: ns, h => by
    cases h with
    | cons h t =>
      cases h
      rw [dp_ints ns t]
      rfl
theorem dpa_ints : ∀ (ns : List Int), DpAll K H (ns.map V.int) (ns.map PyData.int)
  | [] => .nil
  | n :: ns => .cons (.int n) (dpa_ints ns)
end
def mm8 (c : Int) : Int := if c < 2048 then 1 else if c < 65536 then 2 else 3
theorem mm8_is (c : Int) : mm8 c = 1 ∨ mm8 c = 2 ∨ mm8 c = 3 := by
  unfold mm8
  split
  · exact .inl rfl
  · split
    · exact .inr (.inl rfl)
    · exact .inr (.inr rfl)
theorem enc_low {c : Int} (h : c < 128) : enc1 c = [c] := if_pos h
theorem enc_long {c : Int} (hc : 128 ≤ c) : (c < 2048 ∧ mm8 c = 1 ∧ enc1 c = [192 + c / 64, 128 + c % 64]) ∨ (2048 ≤ c ∧ c < 65536 ∧ mm8 c = 2 ∧ enc1 c = [224 + c / 4096, 128 + c / 64 % 64, 128 + c % 64]) ∨
    (65536 ≤ c ∧ mm8 c = 3 ∧ enc1 c = [240 + c / 262144, 128 + c / 4096 % 64, 128 + c / 64 % 64, 128 + c % 64]) := by
  have h0 : ¬ c < 128 := by omega
  by_cases c1 : c < 2048
  · refine .inl ⟨c1, if_pos c1, ?_⟩
    unfold enc1
    rw [if_neg h0, if_pos c1]
  · by_cases c2 : c < 65536
    · refine .inr (.inl ⟨by omega, c2, ?_, ?_⟩)
      · unfold mm8
        rw [if_neg c1, if_pos c2]
      · unfold enc1
        rw [if_neg h0, if_neg c1, if_pos c2]
    · refine .inr (.inr ⟨by omega, ?_, ?_⟩)
      · unfold mm8
        rw [if_neg c1, if_neg c2]
      · unfold enc1
        rw [if_neg h0, if_neg c1, if_neg c2]
theorem long_zero {c : Int} (hc : 128 ≤ c) : [mark8 (mm8 c) + c / 2 ^ (6 * mm8 c).toNat] = (enc1 c).take 1 := by
  rcases enc_long hc with ⟨_, e1, e2⟩ | ⟨_, _, e1, e2⟩ | ⟨_, e1, e2⟩ <;> rw [e1, e2] <;> rfl
theorem long_step {c : Int} {i : Nat} (hc : 128 ≤ c) (hi : i < (mm8 c).toNat) : (enc1 c).take (i + 1) ++ [128 + c / 2 ^ (6 * mm8 c - 6 + (i : Int) * (-6)).toNat % 64] = (enc1 c).take (i + 2) := by
  rcases enc_long hc with ⟨_, e1, e2⟩ | ⟨_, _, e1, e2⟩ | ⟨_, e1, e2⟩
  · rw [e1] at hi ⊢
    rw [e2]
    have e : i = 0 := by
      have : i < 1 := hi
      omega
    subst e
    show [192 + c / 64, 128 + c / 1 % 64] = [192 + c / 64, 128 + c % 64]
    rw [Int.ediv_one]
  · rw [e1] at hi ⊢
    rw [e2]
    have e : i = 0 ∨ i = 1 := by
      have : i < 2 := hi
      omega
    rcases e with e | e
    · subst e
      rfl
    · subst e
      show [224 + c / 4096, 128 + c / 64 % 64, 128 + c / 1 % 64] = [224 + c / 4096, 128 + c / 64 % 64, 128 + c % 64]
      rw [Int.ediv_one]
  · rw [e1] at hi ⊢
    rw [e2]
    have e : i = 0 ∨ i = 1 ∨ i = 2 := by
      have : i < 3 := hi
      omega
    rcases e with e | e | e
    · subst e
      rfl
    · subst e
      rfl
    · subst e
      show [240 + c / 262144, 128 + c / 4096 % 64, 128 + c / 64 % 64, 128 + c / 1 % 64] = [240 + c / 262144, 128 + c / 4096 % 64, 128 + c / 64 % 64, 128 + c % 64]
      rw [Int.ediv_one]
theorem long_all {c : Int} (hc : 128 ≤ c) : (enc1 c).take ((mm8 c).toNat + 1) = enc1 c := by
  rcases enc_long hc with ⟨_, e1, e2⟩ | ⟨_, _, e1, e2⟩ | ⟨_, e1, e2⟩ <;> rw [e1, e2] <;> rfl
theorem mark8_at (m : Int) (h : m = 1 ∨ m = 2 ∨ m = 3) : atI ([0, 192, 224, 240].map V.int) m = some (.int (mark8 m)) := by
  rcases h with e | e | e <;> rw [e] <;> rfl
theorem rows8_m : ∀ r ∈ rows8, r.m = 1 ∨ r.m = 2 ∨ r.m = 3 := by decide
theorem len_enc1 (c : Int) : 1 ≤ (enc1 c).length ∧ (enc1 c).length ≤ 4 := by
  by_cases h : c < 128
  · rw [enc_low h]
    simp
  · rcases enc_long (by omega : 128 ≤ c) with ⟨_, _, e2⟩ | ⟨_, _, _, e2⟩ | ⟨_, _, e2⟩ <;> rw [e2] <;> simp
theorem len_encs : ∀ cs : List Int, (encs cs).length ≤ 4 * cs.length
  | [] => Nat.le_refl _
  | c :: cs => by
    have h := len_encs cs
    have g := (len_enc1 c).2
    show (enc1 c ++ encs cs).length ≤ _
    rw [List.length_append, List.length_cons]
    omega
theorem encs_snoc (cs : List Int) (c : Int) : encs (cs ++ [c]) = encs cs ++ enc1 c := by
  unfold encs
  rw [List.flatMap_append]
  simp
section
variable {P : Program} {w : World} {K : PySem.W.Frag} {mg : Str → Option Value} {base : Heap} {f : Addr} {fd : FuncData}
theorem ok_Utf8__begin (F : FunD K "_begin" "Utf8._begin" (defArgs s_Utf8__begin) (defBody s_Utf8__begin) (defScope s_Utf8__begin) [] [] (meAd "Utf8" "_begin" K) fd) (nb : Nm K mg) : Met P w K mg base 1 (C_Utf8 K) "_begin" (sp_Utf8__begin K) [] := by
  obtain ⟨v_FIRSTS, u_FIRSTS, e_FIRSTS, r_FIRSTS, k_FIRSTS⟩ := nb.g_FIRSTS
  obtain ⟨v_MARKS, u_MARKS, e_MARKS, r_MARKS, k_MARKS⟩ := nb.g_MARKS
  refine metD F nb.cl_Utf8 nb.me_Utf8__begin sc_Utf8__begin (fun _ _ _ _ _ _ us hl => match us, hl with | [_, _], _ => rfl) len2 (fun cdv A outer s H vs Q E hr h => ⟨_, (pss_cons (ps_for PassesOwn.never rfl (pi_tup (pe_gc rfl ⟨u_FIRSTS, e_FIRSTS, r_FIRSTS⟩)) (pg_tup rfl (pgs_cons (pg_name (i := 2) sc_Utf8__begin.nd rfl (Or.inl rfl)) (pgs_cons (pg_name (i := 3) sc_Utf8__begin.nd rfl (Or.inl rfl)) (pgs_cons (pg_name (i := 4) sc_Utf8__begin.nd rfl (Or.inl rfl)) (pgs_cons (pg_name (i := 5) sc_Utf8__begin.nd rfl (Or.inl rfl)) (pgs_cons (pg_name (i := 6) sc_Utf8__begin.nd rfl (Or.inl rfl)) pgs_nil))))))
    (pss_one (ps_if (pt_chain op_le op_le (pv 2) (pv 1) (pv 3))
    (pss_cons (ps_fld (pv 0) (pv 4) rfl)
    (pss_cons (ps_fld (pv 0) (pe_op op_sub (pv 1) (pe_ix ix_tup (pe_gc rfl ⟨u_MARKS, e_MARKS, r_MARKS⟩) (pv 4) (fun _ _ => rfl))) rfl)
    (pss_cons (ps_fld (pv 0) (pv 5) rfl)
    (pss_cons (ps_fld (pv 0) (pv 6) rfl)
    (pss_one (ps_ret pe_bl))))))
    pss_nil)))
    (pss_one (ps_ret pe_bl))), ?_⟩)
  obtain ⟨_, _, rfl, a, l, s, b, rfl, rfl, hU, hl, h⟩ := h
  have hne := u8_ne hU
  obtain ⟨dx, hA, hL⟩ := id hU
  obtain ⟨tf, xs, rfl, hT, hD⟩ := dp_tup (k_FIRSTS H)
  have hD : DpAll K H xs (rows8.map U8R.dat) := hD
  have eN : xs.length = rows8.length := by rw [dp_len hD, List.length_map]
  walk_at "rd"
  refine r_itT ?_
  walk_at "rd"
  refine ⟨tf, rfl, ⟨xs, hT⟩, r_eachT (xs := xs) (fun i σ H' => H = H' ∧ (∀ j row, j < i → rows8[j]? = some row → row.is b = false) ∧ ∃ y1 y2 y3 y4 y5, σ = [some (.ref a), some (.int b), y1, y2, y3, y4, y5])
    ⟨rfl, fun j row h => absurd h (Nat.not_lt_zero _), _, _, _, _, _, rfl⟩ ?_ ?_ ?_⟩
  · rintro i σ _ ⟨rfl, _⟩
    exact hT
  · rintro i x σ _ hx ⟨rfl, hj, y1, y2, y3, y4, y5, rfl⟩
    obtain ⟨d, hd, hxd⟩ := dp_get hD hx
    rw [List.getElem?_map] at hd
    obtain ⟨row, hrow, rfl⟩ := Option.map_eq_some_iff.mp hd
    obtain ⟨tr, zs, rfl, hr, hz⟩ := dp_tup (show Dp K H x (.tuple ([row.f, row.l, row.m, row.le, row.mo].map PyData.int)) from hxd)
    have hz := dp_ints _ hz
    subst hz
    have hm := rows8_m row (List.mem_of_getElem? hrow)
    have hr : SqT K H tr [.int row.f, .int row.l, .int row.m, .int row.le, .int row.mo] := hr
    refine r_gtup hr rfl ?_
    walk_at "rd"
    refine r_ite (fun c1 => ?_) (fun c1 => ?_)
    · walk_at "rd"
      refine r_ite (fun c2 => ?_) (fun c2 => ?_)
      · have hf : rows8.find? (·.is b) = some row := by
          obtain ⟨hi, ei⟩ := List.getElem?_eq_some_iff.mp hrow
          refine List.find?_eq_some_iff_getElem.mpr ⟨?_, i, hi, ei, fun j hji => ?_⟩
          · exact decide_eq_true ⟨c1, c2⟩
          · rw [hj j _ hji (List.getElem?_eq_getElem (Nat.lt_trans hji hi))]
            rfl
        have e : u8start s b = (true, ⟨s.ps, row.m, b - mark8 row.m, row.le, row.mo⟩) := by
          unfold u8start
          rw [hf]
        rw [e] at h
        walk_at "rd"
        refine r_fsetK hA nb.cl_Utf8 nb.na_Utf8__missing (few_Utf8) pt_Utf8__missing fun H1 hA1 f1 => ?_
        obtain ⟨tm, ys, rfl, hM, hE⟩ := dp_tup (k_MARKS H1)
        have hE : ys = [0, 192, 224, 240].map V.int := dp_ints _ hE
        subst hE
        walk_at "rd"
        refine r_ixT hM (mark8_at row.m hm) ?_
        walk_at "rd"
        refine r_fsetK hA1 nb.cl_Utf8 nb.na_Utf8__worth (few_Utf8) pt_Utf8__worth fun H2 hA2 f2 => ?_
        walk_at "rd"
        refine r_fsetK hA2 nb.cl_Utf8 nb.na_Utf8__least (few_Utf8) pt_Utf8__least fun H3 hA3 f3 => ?_
        walk_at "rd"
        refine r_fsetK hA3 nb.cl_Utf8 nb.na_Utf8__most (few_Utf8) pt_Utf8__most fun H4 hA4 f4 => ?_
        walk_at "rd"
        refine h H4 ⟨dx, hA4, ?_⟩ fun p u p1 p2 z => ?_
        · rw [f4 l hne, f3 l hne, f2 l hne, f1 l hne]
          exact hL
        · rw [f4 p p1, f3 p p1, f2 p p1, f1 p p1]
          exact z
      · walk_at "rd"
        refine ⟨rfl, fun j row' hji hr' => ?_, _, _, _, _, _, rfl⟩
        by_cases e : j = i
        · subst e
          rw [hrow] at hr'
          cases hr'
          exact decide_eq_false fun z => c2 z.2
        · exact hj j row' (by omega) hr'
    · walk_at "rd"
      refine ⟨rfl, fun j row' hji hr' => ?_, _, _, _, _, _, rfl⟩
      by_cases e : j = i
      · subst e
        rw [hrow] at hr'
        cases hr'
        exact decide_eq_false fun z => c1 z.1
      · exact hj j row' (by omega) hr'
  · rintro σ _ ⟨rfl, hj, y1, y2, y3, y4, y5, rfl⟩
    have hf : rows8.find? (·.is b) = none := by
      refine List.find?_eq_none.mpr fun row hr => ?_
      obtain ⟨j, hjl, ej⟩ := List.getElem_of_mem hr
      rw [hj j row (by rw [eN]; exact hjl) (by rw [List.getElem?_eq_getElem hjl, ej])]
      decide
    have e : u8start s b = (false, s) := by
      unfold u8start
      rw [hf]
    rw [e] at h
    walk_at "rd"
    exact h H hU fun _ _ _ _ z => z
theorem r_mm8 {t : St → Hp → VK → Prop} {σ : St} {H : Hp} {Q : VK} {c : Int} {A B C : Prop} (h : Q (.int (mm8 c)) H) (e1 : Q (.int 1) H → A) (e2 : Q (.int 2) H → B) (e3 : Q (.int 3) H → C) :
    if decide (c < 2048) = true then A else if decide (c < 65536) = true then B else C := by
  unfold mm8 at h
  refine r_ite (fun c1 => ?_) fun c1 => ?_
  · rw [if_pos c1] at h
    exact e1 h
  · rw [if_neg c1] at h
    refine r_ite (fun c2 => ?_) fun c2 => ?_
    · rw [if_pos c2] at h
      exact e2 h
    · rw [if_neg c2] at h
      exact e3 h
theorem ok__encode_long (F : FunD K "_encode_long" "_encode_long" (defArgs s__encode_long) (defBody s__encode_long) (defScope s__encode_long) [] [] (glAd "_encode_long" K) fd) (m : mg "_encode_long" = some (.ref (glAd "_encode_long" K))) (nb : Nm K mg) : Cal P w K mg base 1 "_encode_long" (sp__encode_long K) [] := by
  obtain ⟨v_MARKS, u_MARKS, e_MARKS, r_MARKS, k_MARKS⟩ := nb.g_MARKS
  refine calD F m sc__encode_long (fun _ _ _ _ _ _ us hl => match us, hl with | [_], _ => rfl) len1 (fun cdv A outer s H vs Q E hr h => ⟨_, (pss_cons (ps_set (i := 1) sc__encode_long.nd rfl (Or.inl rfl) (pe_ifExp (pt_cmpR op_lt (pv 0) pe_int (nomark _)) pe_int (pe_ifExp (pt_cmpR op_lt (pv 0) pe_int (nomark _)) pe_int pe_int)))
    (pss_cons (ps_set (i := 2) sc__encode_long.nd rfl (Or.inl rfl) (pe_lst (pa_cons (pe_op op_add (pe_ix ix_tup (pe_gc rfl ⟨u_MARKS, e_MARKS, r_MARKS⟩) (pv 1) (fun _ _ => rfl)) (pe_op op_shr (pv 0) (pe_op op_mul pe_int (pv 1)))) pa_nil)))
    (pss_cons (ps_for PassesOwn.never rfl (pi_range3 rfl nb.range (pa_cons (pe_op op_sub (pe_op op_mul pe_int (pv 1)) pe_int) (pa_cons (pe_un un_neg pe_int) (pa_cons (pe_un un_neg pe_int) pa_nil)))) (pg_name (i := 3) sc__encode_long.nd rfl (Or.inl rfl))
    (pss_one (ps_expr (pe_bm PySem.F.plainAttrs_list PySem.F.slot_list_append PySem.F.type_list_append mt_append (pv 2) (pa_cons (pe_op op_add pe_int (pe_op op_mod (pe_op op_shr (pv 0) (pv 3)) pe_int)) pa_nil)))))
    (pss_one (ps_ret (pv 2)))))), ?_⟩)
  obtain ⟨_, rfl, c, rfl, c0, c1, h⟩ := h
  obtain ⟨tm, ys, rfl, hM, hE⟩ := dp_tup (k_MARKS H)
  have hE : ys = [0, 192, 224, 240].map V.int := dp_ints _ hE
  subst hE
  walk_at "rd"
  refine r_iteJ (.int (mm8 c)) ?_ ?_ ?_
  · intro c2 R hR
    unfold mm8 at hR
    rw [if_pos c2] at hR
    exact hR
  · intro c2 R hR
    unfold mm8 at hR
    rw [if_neg c2] at hR
    walk_at "rd"
    refine r_ite (fun c3 => ?_) (fun c3 => ?_)
    · rw [if_pos c3] at hR
      exact hR
    · rw [if_neg c3] at hR
      exact hR
  walk_at "rd"
  refine r_ixT hM (mark8_at (mm8 c) (mm8_is c)) ?_
  have hm := mm8_is c
  walk_at "rd"
  refine r_I (by omega) ?_
  walk_at "rd"
  refine ⟨by show 1 ≤ sizeLine; decide, fun l hl => ?_⟩
  have hL : upd H l (.lst [.int (mark8 (mm8 c) + c / 2 ^ (6 * mm8 c).toNat)]) l = some (.lst (((enc1 c).take 1).map V.int)) := by
    rw [upd_same, ← long_zero c0]
    rfl
  have hS := same_upd hl (.lst [.int (mark8 (mm8 c) + c / 2 ^ (6 * mm8 c).toNat)])
  generalize upd H l (.lst [.int (mark8 (mm8 c) + c / 2 ^ (6 * mm8 c).toNat)]) = H0 at hL hS ⊢
  walk_at "rd"
  refine r_rng3 ?_
  walk_at "rd"
  refine ⟨_, _, _, (mm8 c).toNat, rfl, r_eachR (mm8 c).toNat (by rcases hm with e | e | e <;> rw [e] <;> exact ⟨by decide, by decide, by decide, by decide⟩)
    (fun i σ H' => ∃ y, σ = [some (.int c), some (.int (mm8 c)), some (.ref l), y] ∧ H' l = some (.lst (((enc1 c).take (i + 1)).map V.int)) ∧ Same H H') ⟨_, rfl, hL, hS⟩ ?_ ?_⟩
  · rintro i σ H1 hi ⟨y, rfl, g1, g2⟩
    walk_at "rd"
    refine ⟨tyL g1, ?_⟩
    walk_at "rd"
    refine r_I (by show 0 ≤ 6 * mm8 c - 6 + (i : Int) * (-6); rcases hm with e | e | e <;> rw [e] at hi ⊢ <;> (have : (i : Nat) < _ := hi; omega)) ?_
    walk_at "rd"
    refine r_appK g1 ?_ fun H5 hL5 f5 => ?_
    · refine Nat.lt_of_le_of_lt (m := 4) ?_ (by decide)
      rw [List.length_map]
      exact Nat.le_trans (List.length_take_le' _ _) (len_enc1 c).2
    · refine ⟨_, rfl, ?_, fun b u z => ?_⟩
      · rw [hL5, map_snoc, long_step c0 hi]
      · by_cases e : b = l
        · rw [e, hl] at z
          cases z
        · rw [f5 b e]
          exact g2 b u z
  · rintro σ H1 ⟨y, rfl, g1, g2⟩
    rw [long_all c0] at g1
    walk_at "rd"
    exact h l H1 hl g1 g2
theorem row_same {H H' : Hp} {a : Addr} {zs : List Int} (h : RowAt H a zs) (s : Same H H') : RowAt H' a zs := h.elim (fun h => .inl (s _ _ h)) fun h => .inr (s _ _ h)
theorem ints_get {cs : List Int} {i : Nat} {x : V} (e : (cs.map V.int)[i]? = some x) : ∃ c, cs[i]? = some c ∧ x = .int c ∧ cs.take (i + 1) = cs.take i ++ [c] := by
  rw [List.getElem?_map] at e
  obtain ⟨c, h, rfl⟩ := Option.map_eq_some_iff.mp e
  refine ⟨c, h, rfl, ?_⟩
  rw [List.take_succ, h]
  rfl
theorem ints_step {cs : List Int} {i : Nat} {c : Int} (h : cs[i]? = some c) : cs.take (i + 1) = cs.take i ++ [c] := by
  rw [List.take_succ, h]
  rfl
/-- a for over a row, list or tuple -/
theorem r_eachRow {σ : St} {H : Hp} {n : St → Hp → Prop} {r : VK} {K : PySem.W.Frag} {k : Nat} {g : TG} {tb : TS} {a : Addr} {zs : List Int} (e : σ[k]? = some (some (.ref a))) (hR : RowAt H a zs) (Pv : Nat → St → Hp → Prop) (h0 : Pv 0 σ H) (hl : ∀ i σ H', Pv i σ H' → ∀ u, H a = some u → H' a = some u)
    (hs : ∀ (i : Nat) (z : Int) σ H', zs[i]? = some z → Pv i σ H' → g (.int z) σ H' fun σ2 H2 => tb ⟨Pv (i + 1), r, n, Pv (i + 1)⟩ σ2 H2) (hd : ∀ σ H', Pv zs.length σ H' → n σ H') :
    (iList K (tVar k) σ H fun J H1 => ∃ W : Nat → Nat → St → Hp → Prop, (∃ m, W 0 m σ H1) ∧ ∀ i m σ H, W i m σ H →
    (J.stop i H ∧ n σ H) ∨ (J.go i H ∧ ∃ N : St → Hp → Prop, (∀ σ' H', N σ' H' → ∃ m', m' < m ∧ W (i + 1) m' σ' H') ∧ ∀ x H', J.yld i H x H' → g x σ H' fun σ2 H2 => tb ⟨N, r, n, N⟩ σ2 H2)) ∨
    (iTup K (tVar k) σ H fun J H1 => ∃ W : Nat → Nat → St → Hp → Prop, (∃ m, W 0 m σ H1) ∧ ∀ i m σ H, W i m σ H →
    (J.stop i H ∧ n σ H) ∨ (J.go i H ∧ ∃ N : St → Hp → Prop, (∀ σ' H', N σ' H' → ∃ m', m' < m ∧ W (i + 1) m' σ' H') ∧ ∀ x H', J.yld i H x H' → g x σ H' fun σ2 H2 => tb ⟨N, r, n, N⟩ σ2 H2)) := by
  have st : ∀ (i : Nat) (x : V) σ H', (zs.map V.int)[i]? = some x → Pv i σ H' → g x σ H' fun σ2 H2 => tb ⟨Pv (i + 1), r, n, Pv (i + 1)⟩ σ2 H2 := fun i x σ H' e p => by
    obtain ⟨c, h1, rfl, _⟩ := ints_get e
    exact hs i c σ H' h1 p
  rcases hR with q | q
  · have hd' : ∀ σ H', Pv (zs.map V.int).length σ H' → n σ H' := by
      rw [List.length_map]
      exact hd
    exact .inl (r_itL ⟨_, e, a, rfl, ⟨_, SqL.of q⟩, r_eachL Pv h0 (fun i σ H' p => SqL.of (hl i σ H' p _ q)) st hd'⟩)
  · have hd' : ∀ σ H', Pv (zs.map V.int).length σ H' → n σ H' := by
      rw [List.length_map]
      exact hd
    exact .inr (r_itT ⟨_, e, a, rfl, ⟨_, SqT.of q⟩, r_eachT Pv h0 (fun i σ H' p => SqT.of (hl i σ H' p _ q)) st hd'⟩)
/-- .. with the numbers of the turns -/
theorem r_enumRow {σ : St} {H : Hp} {n : St → Hp → Prop} {r : VK} {K : PySem.W.Frag} {k : Nat} {g : TG} {tb : TS} {a : Addr} {zs : List Int} (e : σ[k]? = some (some (.ref a))) (hR : RowAt H a zs) (Pv : Nat → St → Hp → Prop) (h0 : Pv 0 σ H) (hl : ∀ i σ H', Pv i σ H' → ∀ u, H a = some u → H' a = some u)
    (hs : ∀ (i : Nat) (z : Int) σ H' T, zs[i]? = some z → Pv i σ H' → H' T = none → g (.ref T) σ (upd H' T (.tup [.int (i : Nat), .int z])) fun σ2 H2 => tb ⟨Pv (i + 1), r, n, Pv (i + 1)⟩ σ2 H2) (hd : ∀ σ H', Pv zs.length σ H' → n σ H') :
    (iEnum K (tCons (tVar k) tNil) σ H fun J H1 => ∃ W : Nat → Nat → St → Hp → Prop, (∃ m, W 0 m σ H1) ∧ ∀ i m σ H, W i m σ H →
    (J.stop i H ∧ n σ H) ∨ (J.go i H ∧ ∃ N : St → Hp → Prop, (∀ σ' H', N σ' H' → ∃ m', m' < m ∧ W (i + 1) m' σ' H') ∧ ∀ x H', J.yld i H x H' → g x σ H' fun σ2 H2 => tb ⟨N, r, n, N⟩ σ2 H2)) ∨
    (iEnumT K (tCons (tVar k) tNil) σ H fun J H1 => ∃ W : Nat → Nat → St → Hp → Prop, (∃ m, W 0 m σ H1) ∧ ∀ i m σ H, W i m σ H →
    (J.stop i H ∧ n σ H) ∨ (J.go i H ∧ ∃ N : St → Hp → Prop, (∀ σ' H', N σ' H' → ∃ m', m' < m ∧ W (i + 1) m' σ' H') ∧ ∀ x H', J.yld i H x H' → g x σ H' fun σ2 H2 => tb ⟨N, r, n, N⟩ σ2 H2)) := by
  have st : ∀ (i : Nat) (x : V) σ H' T, (zs.map V.int)[i]? = some x → Pv i σ H' → H' T = none → g (.ref T) σ (upd H' T (.tup [.int (i : Nat), x])) fun σ2 H2 => tb ⟨Pv (i + 1), r, n, Pv (i + 1)⟩ σ2 H2 := fun i x σ H' T e p t => by
    obtain ⟨c, h1, rfl, _⟩ := ints_get e
    exact hs i c σ H' T h1 p t
  have hd' : ∀ σ H', Pv (zs.map V.int).length σ H' → n σ H' := by
    rw [List.length_map]
    exact hd
  rcases hR with q | q
  · exact .inl (r_itE ⟨_, e, a, _, rfl, SqL.of q, r_eachE Pv h0 (fun i σ H' p => SqL.of (hl i σ H' p _ q)) st hd'⟩)
  · exact .inr (r_itET ⟨_, e, a, _, rfl, SqT.of q, r_eachET Pv h0 (fun i σ H' p => SqT.of (hl i σ H' p _ q)) st hd'⟩)
theorem ok_encode (F : FunD K "encode" "encode" (defArgs s_encode) (defBody s_encode) (defScope s_encode) [] [] (glAd "encode" K) fd) (m : mg "encode" = some (.ref (glAd "encode" K))) (nb : Nm K mg) (c__encode_long : Cal P w K mg base 1 "_encode_long" (sp__encode_long K) []) : Cal P w K mg base 2 "encode" (sp_encode K) [] := by
  refine calD F m sc_encode (fun _ _ _ _ _ _ us hl => match us, hl with | [_], _ => rfl) len1 (fun cdv A outer s H vs Q E hr h => ⟨_, (pss_cons (ps_set (i := 1) sc_encode.nd rfl (Or.inl rfl) (pe_lst pa_nil))
    (pss_cons (ps_for PassesOwn.never rfl (pi_or (pi_list (pv 0)) (pi_tup (pv 0))) (pg_name (i := 2) sc_encode.nd rfl (Or.inl rfl))
    (pss_one (ps_if (pt_cmpR op_lt (pv 2) pe_int (nomark _))
    (pss_one (ps_expr (pe_bm PySem.F.plainAttrs_list PySem.F.slot_list_append PySem.F.type_list_append mt_append (pv 1) (pa_cons (pv 2) pa_nil))))
    (pss_one (ps_expr (pe_bm PySem.F.plainAttrs_list PySem.F.slot_list_extend PySem.F.type_list_extend mt_extend (pv 1) (pa_cons (pe_c c__encode_long hr (by decide) rfl (pa_cons (pv 2) pa_nil)) pa_nil)))))))
    (pss_one (ps_ret (pv 1))))), ?_⟩)
  obtain ⟨_, rfl, a, cs, rfl, hR, hc, hn, h⟩ := h
  walk_at "rd"
  refine ⟨by show 0 ≤ sizeLine; decide, fun l hl => ?_⟩
  have hL : upd H l (.lst []) l = some (.lst ((encs (cs.take 0)).map V.int)) := upd_same
  have hS := same_upd hl (.lst [])
  generalize upd H l (.lst []) = H0 at hL hS ⊢
  have hR0 := row_same hR hS
  walk_at "rd"
  have ha : ∀ u, H0 a = some u → a ≠ l := fun u z e => by
    have hx : ∃ u, H a = some u := hR.elim (fun h => ⟨_, h⟩) fun h => ⟨_, h⟩
    obtain ⟨u, hu⟩ := hx
    rw [e, hl] at hu
    cases hu
  refine r_eachRow rfl hR0 (fun i σ H' => ∃ y, σ = [some (.ref a), some (.ref l), y] ∧ H' l = some (.lst ((encs (cs.take i)).map V.int)) ∧ ∀ b u, b ≠ l → H0 b = some u → H' b = some u) ⟨_, rfl, hL, fun _ _ _ z => z⟩
    (fun i σ H' p u z => by
      obtain ⟨y, _, _, g⟩ := p
      exact g a u (ha u z) z) ?_ ?_
  · rintro i c σ H1 hi ⟨y, rfl, g1, g2⟩
    have hP := hc c (List.mem_of_getElem? hi)
    have hlen : (encs (cs.take i)).length ≤ 4 * cs.length := by
      have h1 := len_encs (cs.take i)
      have h2 := List.length_take_le' i cs
      omega
    have hi' : i < cs.length := (List.getElem?_eq_some_iff.mp hi).1
    have hlen2 : (encs (cs.take i)).length + 4 ≤ 4 * cs.length := by
      have h1 := len_encs (cs.take i)
      have h2 : (cs.take i).length ≤ i := List.length_take_le _ _
      omega
    walk_at "rd"
    refine r_ite (fun c1 => ?_) (fun c1 => ?_)
    · walk_at "rd"
      refine ⟨tyL g1, ?_⟩
      walk_at "rd"
      refine r_appK g1 (by rw [List.length_map]; omega) fun H5 hL5 f5 => ?_
      refine ⟨_, rfl, ?_, fun b u p z => ?_⟩
      · rw [hL5, map_snoc, ints_step hi, encs_snoc, enc_low c1]
      · rw [f5 b p]
        exact g2 b u p z
    · walk_at "rd"
      refine ⟨tyL g1, ?_⟩
      walk_at "rd"
      refine ⟨_, rfl, c, rfl, by omega, hP.2.1, fun p H2 hp hp2 s2 => ?_⟩
      have hpl : p ≠ l := fun e => by
        rw [e, g1] at hp
        cases hp
      refine ⟨l, p, _, _, rfl, rfl, s2 _ _ g1, hp2, ?_, ?_⟩
      · rw [List.length_map, List.length_map]
        have := (len_enc1 c).2
        omega
      · refine ⟨_, rfl, ?_, fun b u q z => ?_⟩
        · rw [upd_same, ints_step hi, encs_snoc, List.map_append]
        · rw [upd_ne q]
          exact s2 _ _ (g2 b u q z)
  · rintro σ H1 ⟨y, rfl, g1, g2⟩
    rw [List.take_length] at g1
    walk_at "rd"
    refine h l H1 hl g1 fun b u z => ?_
    have hbl : b ≠ l := fun e => by
      rw [e, hl] at z
      cases z
    exact g2 b u hbl (hS b u z)
end

def u8run (s : U8) : List Int → Option U8
  | [] => some s
  | b :: bs => if (u8take s b).1 = true then u8run (u8take s b).2 bs else none
theorem u8run_snoc : ∀ (zs : List Int) (s t : U8) (z : Int), u8run s zs = some t → (u8take t z).1 = true → u8run s (zs ++ [z]) = some (u8take t z).2
  | [], s, t, z, h, e => by
    cases h
    show (if (u8take s z).1 = true then some (u8take s z).2 else none) = _
    rw [if_pos e]
  | b :: bs, s, t, z, h, e => by
    unfold u8run at h
    show (if (u8take s b).1 = true then u8run (u8take s b).2 (bs ++ [z]) else none) = _
    by_cases c : (u8take s b).1 = true
    · rw [if_pos c] at h ⊢
      exact u8run_snoc bs _ t z h e
    · rw [if_neg c] at h
      cases h
theorem u8run_app : ∀ (l rest : List Int) (S : Nat → U8), (∀ k b, l[k]? = some b → u8take (S k) b = (true, S (k + 1))) → u8run (S 0) (l ++ rest) = u8run (S l.length) rest
  | [], rest, S, _ => rfl
  | b :: bs, rest, S, h => by
    have e := h 0 b rfl
    show (if (u8take (S 0) b).1 = true then u8run (u8take (S 0) b).2 (bs ++ rest) else none) = _
    rw [e, if_pos rfl]
    exact u8run_app bs rest (fun k => S (k + 1)) fun k b' hb => h (k + 1) b' hb
theorem len_if {p : Prop} [Decidable p] (ps : List Int) (x : Int) : (if p then ps ++ [x] else ps).length ≤ ps.length + 1 := by
  split
  · simp
  · omega
theorem u8take_len (s : U8) (b : Int) : (u8take s b).2.ps.length ≤ s.ps.length + 1 := by
  unfold u8take
  split
  · unfold u8go
    split
    · exact len_if s.ps _
    · exact Nat.le_succ _
  · split
    · show (s.ps ++ [b]).length ≤ _
      simp
    · unfold u8start
      split
      · exact Nat.le_succ _
      · exact Nat.le_succ _
theorem rows8_up : ∀ i < 8, ∀ j < i, ∀ r q, rows8[i]? = some r → rows8[j]? = some q → q.l < r.f := by
  intro i hi j hj r q h1 h2
  have e : (i = 0 ∨ i = 1 ∨ i = 2 ∨ i = 3 ∨ i = 4 ∨ i = 5 ∨ i = 6 ∨ i = 7) := by omega
  have e' : (j = 0 ∨ j = 1 ∨ j = 2 ∨ j = 3 ∨ j = 4 ∨ j = 5 ∨ j = 6 ∨ j = 7) := by omega
  rcases e with e | e | e | e | e | e | e | e <;> subst e <;> cases h1 <;> (rcases e' with e | e | e | e | e | e | e | e <;> subst e <;> cases h2 <;> first | decide | (exfalso; omega))
theorem u8start_eq (s : U8) (b : Int) (i : Nat) (r : U8R) (hi : rows8[i]? = some r) (h : r.f ≤ b ∧ b ≤ r.l) : u8start s b = (true, ⟨s.ps, r.m, b - mark8 r.m, r.le, r.mo⟩) := by
  have hf : rows8.find? (·.is b) = some r := by
    obtain ⟨hl, ei⟩ := List.getElem?_eq_some_iff.mp hi
    refine List.find?_eq_some_iff_getElem.mpr ⟨decide_eq_true h, i, hl, ei, fun j hj => ?_⟩
    have := rows8_up i hl j hj r rows8[j] hi (List.getElem?_eq_getElem (Nat.lt_trans hj hl))
    have e : U8R.is rows8[j] b = false := decide_eq_false (by omega)
    rw [e]
    rfl
  unfold u8start
  rw [hf]
def oc0 (c : Int) : Int := if c < 2048 then 192 + c / 64 else if c < 65536 then 224 + c / 4096 else 240 + c / 262144
def oc1 (c : Int) : Int := if c < 2048 then 128 + c % 64 else if c < 65536 then 128 + c / 64 % 64 else 128 + c / 4096 % 64
theorem row_of {c : Int} (hc : 128 ≤ c) (hP : Point c) : ∃ (i : Nat) (r : U8R), rows8[i]? = some r ∧ (r.f ≤ oc0 c ∧ oc0 c ≤ r.l) ∧ r.m = mm8 c ∧ r.le ≤ oc1 c ∧ oc1 c ≤ r.mo := by
  obtain ⟨p1, p2, p3⟩ := hP
  unfold oc0 oc1 mm8
  by_cases c1 : c < 2048
  · rw [if_pos c1, if_pos c1, if_pos c1]
    exact ⟨0, _, rfl, ⟨by show (194 : Int) ≤ _; omega, by show _ ≤ (223 : Int); omega⟩, rfl, by show (128 : Int) ≤ _; omega, by show _ ≤ (191 : Int); omega⟩
  rw [if_neg c1, if_neg c1, if_neg c1]
  by_cases c2 : c < 65536
  · rw [if_pos c2, if_pos c2, if_pos c2]
    by_cases d1 : c < 4096
    · exact ⟨1, _, rfl, ⟨by show (224 : Int) ≤ _; omega, by show _ ≤ (224 : Int); omega⟩, rfl, by show (160 : Int) ≤ _; omega, by show _ ≤ (191 : Int); omega⟩
    by_cases d2 : c < 53248
    · exact ⟨2, _, rfl, ⟨by show (225 : Int) ≤ _; omega, by show _ ≤ (236 : Int); omega⟩, rfl, by show (128 : Int) ≤ _; omega, by show _ ≤ (191 : Int); omega⟩
    by_cases d3 : c < 57344
    · exact ⟨3, _, rfl, ⟨by show (237 : Int) ≤ _; omega, by show _ ≤ (237 : Int); omega⟩, rfl, by show (128 : Int) ≤ _; omega, by show _ ≤ (159 : Int); omega⟩
    · exact ⟨4, _, rfl, ⟨by show (238 : Int) ≤ _; omega, by show _ ≤ (239 : Int); omega⟩, rfl, by show (128 : Int) ≤ _; omega, by show _ ≤ (191 : Int); omega⟩
  · rw [if_neg c2, if_neg c2, if_neg c2]
    by_cases d1 : c < 262144
    · exact ⟨5, _, rfl, ⟨by show (240 : Int) ≤ _; omega, by show _ ≤ (240 : Int); omega⟩, rfl, by show (144 : Int) ≤ _; omega, by show _ ≤ (191 : Int); omega⟩
    by_cases d2 : c < 1048576
    · exact ⟨6, _, rfl, ⟨by show (241 : Int) ≤ _; omega, by show _ ≤ (243 : Int); omega⟩, rfl, by show (128 : Int) ≤ _; omega, by show _ ≤ (191 : Int); omega⟩
    · exact ⟨7, _, rfl, ⟨by show (244 : Int) ≤ _; omega, by show _ ≤ (244 : Int); omega⟩, rfl, by show (128 : Int) ≤ _; omega, by show _ ≤ (143 : Int); omega⟩
theorem take_start {s : U8} {b : Int} (h0 : s.ms = 0) (h1 : 128 ≤ b) : u8take s b = u8start s b := by
  unfold u8take
  rw [if_neg (by omega), if_neg (by omega)]
theorem take_go {s : U8} {b : Int} (h0 : 0 < s.ms) (h1 : s.le ≤ b ∧ b ≤ s.mo) : u8take s b = (true, ⟨if s.ms - 1 = 0 then s.ps ++ [s.wo * 64 + b - 128] else s.ps, s.ms - 1, s.wo * 64 + b - 128, 128, 191⟩) := by
  unfold u8take u8go
  rw [if_pos h0, if_pos h1]
theorem take_low {s : U8} {b : Int} (h0 : s.ms = 0) (h1 : b < 128) : u8take s b = (true, { s with ps := s.ps ++ [b] }) := by
  unfold u8take
  rw [if_neg (by omega), if_pos h1]
theorem mid_of {w b : Int} : (128 : Int) ≤ 128 + w % 64 ∧ 128 + w % 64 ≤ 191 := by omega
/-- the states over one character's octets -/
theorem u8char {c : Int} (hP : Point c) (s : U8) (h0 : s.ms = 0) : ∃ S : Nat → U8, S 0 = s ∧ (∀ k b, (enc1 c)[k]? = some b → u8take (S k) b = (true, S (k + 1))) ∧ (S (enc1 c).length).ms = 0 ∧ (S (enc1 c).length).ps = s.ps ++ [c] ∧
    ∀ k, k < (enc1 c).length → (S k).ps = s.ps ∧ (0 < k → 0 < (S k).ms) := by
  by_cases hc : c < 128
  · rw [enc_low hc]
    refine ⟨fun k => match k with | 0 => s | _ => { s with ps := s.ps ++ [c] }, rfl, fun k b hb => ?_, h0, rfl, fun k hk => ?_⟩
    · match k, hb with
      | 0, hb =>
        cases hb
        exact take_low h0 hc
      | k + 1, hb => cases hb
    · match k, hk with
      | 0, _ => exact ⟨rfl, fun h => absurd h (by decide)⟩
      | k + 1, hk => exact absurd hk (by simp)
  have hc : 128 ≤ c := by omega
  obtain ⟨i, r, hr, hf, hm, hl, hmo⟩ := row_of hc hP
  have hP1 := hP.1
  have hP2 := hP.2.1
  rcases enc_long hc with ⟨c1, e1, e2⟩ | ⟨c1, c2, e1, e2⟩ | ⟨c1, e1, e2⟩
  · have o0 : oc0 c = 192 + c / 64 := if_pos c1
    have o1 : oc1 c = 128 + c % 64 := if_pos c1
    rw [o0] at hf
    rw [o1] at hl hmo
    rw [e1] at hm
    rw [e2]
    have t0 := (take_start (b := 192 + c / 64) h0 (by omega)).trans (u8start_eq s (192 + c / 64) i r hr hf)
    rw [hm] at t0
    have t1 := take_go (s := ⟨s.ps, 1, 192 + c / 64 - mark8 1, r.le, r.mo⟩) (b := 128 + c % 64) (by show (0 : Int) < 1; decide) ⟨hl, hmo⟩
    refine ⟨fun k => match k with | 0 => s | 1 => ⟨s.ps, 1, 192 + c / 64 - mark8 1, r.le, r.mo⟩ | _ => ⟨s.ps ++ [(192 + c / 64 - mark8 1) * 64 + (128 + c % 64) - 128], 0, (192 + c / 64 - mark8 1) * 64 + (128 + c % 64) - 128, 128, 191⟩, rfl, fun k b hb => ?_, rfl, ?_, fun k hk => ?_⟩
    · match k, hb with
      | 0, hb =>
        cases hb
        exact t0
      | 1, hb =>
        cases hb
        exact t1
      | k + 2, hb => cases hb
    · show s.ps ++ [(192 + c / 64 - 192) * 64 + (128 + c % 64) - 128] = _
      rw [show (192 + c / 64 - 192) * 64 + (128 + c % 64) - 128 = c by omega]
    · match k, hk with
      | 0, _ => exact ⟨rfl, fun h => absurd h (by decide)⟩
      | 1, _ => exact ⟨rfl, fun h => by show (0 : Int) < 1; decide⟩
      | k + 2, hk => exact absurd hk (by simp)
  · have o0 : oc0 c = 224 + c / 4096 := by
      unfold oc0
      rw [if_neg (by omega), if_pos c2]
    have o1 : oc1 c = 128 + c / 64 % 64 := by
      unfold oc1
      rw [if_neg (by omega), if_pos c2]
    rw [o0] at hf
    rw [o1] at hl hmo
    rw [e1] at hm
    rw [e2]
    have t0 := (take_start (b := 224 + c / 4096) h0 (by omega)).trans (u8start_eq s (224 + c / 4096) i r hr hf)
    rw [hm] at t0
    have t1 := take_go (s := ⟨s.ps, 2, 224 + c / 4096 - mark8 2, r.le, r.mo⟩) (b := 128 + c / 64 % 64) (by show (0 : Int) < 2; decide) ⟨hl, hmo⟩
    have t2 := take_go (s := ⟨s.ps, 1, (224 + c / 4096 - mark8 2) * 64 + (128 + c / 64 % 64) - 128, 128, 191⟩) (b := 128 + c % 64) (by show (0 : Int) < 1; decide) ⟨by show (128 : Int) ≤ _; omega, by show _ ≤ (191 : Int); omega⟩
    refine ⟨fun k => match k with | 0 => s | 1 => ⟨s.ps, 2, 224 + c / 4096 - mark8 2, r.le, r.mo⟩ | 2 => ⟨s.ps, 1, (224 + c / 4096 - mark8 2) * 64 + (128 + c / 64 % 64) - 128, 128, 191⟩ | _ => ⟨s.ps ++ [((224 + c / 4096 - mark8 2) * 64 + (128 + c / 64 % 64) - 128) * 64 + (128 + c % 64) - 128], 0, ((224 + c / 4096 - mark8 2) * 64 + (128 + c / 64 % 64) - 128) * 64 + (128 + c % 64) - 128, 128, 191⟩, rfl, fun k b hb => ?_, rfl, ?_, fun k hk => ?_⟩
    · match k, hb with
      | 0, hb =>
        cases hb
        exact t0
      | 1, hb =>
        cases hb
        exact t1
      | 2, hb =>
        cases hb
        exact t2
      | k + 3, hb => cases hb
    · show s.ps ++ [((224 + c / 4096 - 224) * 64 + (128 + c / 64 % 64) - 128) * 64 + (128 + c % 64) - 128] = _
      rw [show ((224 + c / 4096 - 224) * 64 + (128 + c / 64 % 64) - 128) * 64 + (128 + c % 64) - 128 = c by omega]
    · match k, hk with
      | 0, _ => exact ⟨rfl, fun h => absurd h (by decide)⟩
      | 1, _ => exact ⟨rfl, fun h => by show (0 : Int) < 2; decide⟩
      | 2, _ => exact ⟨rfl, fun h => by show (0 : Int) < 1; decide⟩
      | k + 3, hk => exact absurd hk (by simp)
  · have o0 : oc0 c = 240 + c / 262144 := by
      unfold oc0
      rw [if_neg (by omega), if_neg (by omega)]
    have o1 : oc1 c = 128 + c / 4096 % 64 := by
      unfold oc1
      rw [if_neg (by omega), if_neg (by omega)]
    rw [o0] at hf
    rw [o1] at hl hmo
    rw [e1] at hm
    rw [e2]
    have t0 := (take_start (b := 240 + c / 262144) h0 (by omega)).trans (u8start_eq s (240 + c / 262144) i r hr hf)
    rw [hm] at t0
    have t1 := take_go (s := ⟨s.ps, 3, 240 + c / 262144 - mark8 3, r.le, r.mo⟩) (b := 128 + c / 4096 % 64) (by show (0 : Int) < 3; decide) ⟨hl, hmo⟩
    have t2 := take_go (s := ⟨s.ps, 2, (240 + c / 262144 - mark8 3) * 64 + (128 + c / 4096 % 64) - 128, 128, 191⟩) (b := 128 + c / 64 % 64) (by show (0 : Int) < 2; decide) ⟨by show (128 : Int) ≤ _; omega, by show _ ≤ (191 : Int); omega⟩
    have t3 := take_go (s := ⟨s.ps, 1, ((240 + c / 262144 - mark8 3) * 64 + (128 + c / 4096 % 64) - 128) * 64 + (128 + c / 64 % 64) - 128, 128, 191⟩) (b := 128 + c % 64) (by show (0 : Int) < 1; decide) ⟨by show (128 : Int) ≤ _; omega, by show _ ≤ (191 : Int); omega⟩
    refine ⟨fun k => match k with | 0 => s | 1 => ⟨s.ps, 3, 240 + c / 262144 - mark8 3, r.le, r.mo⟩ | 2 => ⟨s.ps, 2, (240 + c / 262144 - mark8 3) * 64 + (128 + c / 4096 % 64) - 128, 128, 191⟩ | 3 => ⟨s.ps, 1, ((240 + c / 262144 - mark8 3) * 64 + (128 + c / 4096 % 64) - 128) * 64 + (128 + c / 64 % 64) - 128, 128, 191⟩ | _ => ⟨s.ps ++ [(((240 + c / 262144 - mark8 3) * 64 + (128 + c / 4096 % 64) - 128) * 64 + (128 + c / 64 % 64) - 128) * 64 + (128 + c % 64) - 128], 0, (((240 + c / 262144 - mark8 3) * 64 + (128 + c / 4096 % 64) - 128) * 64 + (128 + c / 64 % 64) - 128) * 64 + (128 + c % 64) - 128, 128, 191⟩, rfl, fun k b hb => ?_, rfl, ?_, fun k hk => ?_⟩
    · match k, hb with
      | 0, hb =>
        cases hb
        exact t0
      | 1, hb =>
        cases hb
        exact t1
      | 2, hb =>
        cases hb
        exact t2
      | 3, hb =>
        cases hb
        exact t3
      | k + 4, hb => cases hb
    · show s.ps ++ [(((240 + c / 262144 - 240) * 64 + (128 + c / 4096 % 64) - 128) * 64 + (128 + c / 64 % 64) - 128) * 64 + (128 + c % 64) - 128] = _
      rw [show (((240 + c / 262144 - 240) * 64 + (128 + c / 4096 % 64) - 128) * 64 + (128 + c / 64 % 64) - 128) * 64 + (128 + c % 64) - 128 = c by omega]
    · match k, hk with
      | 0, _ => exact ⟨rfl, fun h => absurd h (by decide)⟩
      | 1, _ => exact ⟨rfl, fun h => by show (0 : Int) < 3; decide⟩
      | 2, _ => exact ⟨rfl, fun h => by show (0 : Int) < 2; decide⟩
      | 3, _ => exact ⟨rfl, fun h => by show (0 : Int) < 1; decide⟩
      | k + 4, hk => exact absurd hk (by simp)
theorem u8run_encs : ∀ (cs : List Int) (s : U8), (∀ c ∈ cs, Point c) → s.ms = 0 → ∃ t, u8run s (encs cs) = some t ∧ t.ms = 0 ∧ t.ps = s.ps ++ cs
  | [], s, _, h0 => ⟨s, rfl, h0, (List.append_nil _).symm⟩
  | c :: cs, s, hc, h0 => by
    obtain ⟨S, e0, hS, hm, hp, _⟩ := u8char (hc c (List.mem_cons_self ..)) s h0
    have e := u8run_app (enc1 c) (encs cs) S hS
    rw [e0] at e
    obtain ⟨t, h1, h2, h3⟩ := u8run_encs cs (S (enc1 c).length) (fun c h => hc c (List.mem_cons_of_mem _ h)) hm
    refine ⟨t, e.trans h1, h2, ?_⟩
    rw [h3, hp, List.append_assoc]
    rfl

abbrev s_decode : Stmt := (top 6)
theorem sc_decode : FnScope ["octets", "taker", "index", "octet"] ["octets"] (defScope s_decode) := ⟨rfl, rfl, rfl, by decide +kernel, rfl, by decide +kernel, by decide +kernel⟩
def sp_decode (K : Frg) : Sp := sp1 fun p H Q _ => ∃ a zs, p = .ref a ∧ RowAt H a zs ∧ zs.length < sizeLine ∧
  (∀ s q r H', u8run u80 zs = some s → ¬ s.ms > 0 → H q = none → H r = none → H' q = some (.tup (s.ps.map V.int)) → H' r = some (.tup [.ref q, .non]) → Same H H' → Q (.ref r) H') ∧
  (∀ s r H', u8run u80 zs = some s → s.ms > 0 → H r = none → H' r = some (.tup [.non, .int ((zs.length : Int) - 1)]) → Same H H' → Q (.ref r) H') ∧
  (∀ (i : Nat) s z r H', u8run u80 (zs.take i) = some s → zs[i]? = some z → (u8take s z).1 = false → H r = none → H' r = some (.tup [.non, .int (i : Nat)]) → Same H H' → Q (.ref r) H')
section
variable {P : Program} {w : World} {K : PySem.W.Frag} {mg : Str → Option Value} {base : Heap} {f : Addr} {fd : FuncData}
/-- Utf8() -/
theorem d_u8 {H : Hp} {R : Addr → Hp → Prop} {E : XK} (h : ∀ a l H', H a = none → H l = none → U8At K H' a l u80 → Same H H' → R a H') : ∀ x dx, H x = none → H dx = none → dx ≠ x → sp_Utf8___init__ K (.ref x :: ([] ++ [])) (upd (upd H dx (.own x)) x (.ins (C_Utf8 K) dx [])) (fun v H2 => v = .non ∧ R x H2) E := by
  intro a dx ha hd hne
  refine ⟨_, rfl, a, dx, rfl, upd_same, fun l H' hl hla hU g => ⟨rfl, ?_⟩⟩
  have hl0 : H l = none := by
    rw [upd_ne hla] at hl
    by_cases e : l = dx
    · rw [e] at hl ⊢
      exact hd
    · rw [upd_ne e] at hl
      exact hl
  refine h a l H' ha hl0 hU fun b u z => ?_
  have h1 : b ≠ a := fun e => by
    rw [e, ha] at z
    cases z
  have h2 : b ≠ dx := fun e => by
    rw [e, hd] at z
    cases z
  refine g b u h1 ?_
  rw [upd_ne h1, upd_ne h2]
  exact z
theorem but_same {H0 H H' : Hp} {a l : Addr} (ha : H0 a = none) (hl : H0 l = none) (s : Same H0 H) (b : But a l H H') : Same H0 H' := fun p u z =>
  b p u (fun e => by rw [e, ha] at z; cases z) (fun e => by rw [e, hl] at z; cases z) (s p u z)
theorem u8_new {H : Hp} {a l p : Addr} {s : U8} {o : HO} (h : U8At K H a l s) (hp : H p = none) : U8At K (upd H p o) a l s := by
  obtain ⟨dx, h1, h2⟩ := h
  exact ⟨dx, same_upd hp o _ _ h1, same_upd hp o _ _ h2⟩
theorem ok_decode (F : FunD K "decode" "decode" (defArgs s_decode) (defBody s_decode) (defScope s_decode) [] [] (glAd "decode" K) fd) (m : mg "decode" = some (.ref (glAd "decode" K))) (nb : Nm K mg) (k_Utf8 : Mak P w K mg base 1 "Utf8" (C_Utf8 K) (sp_Utf8___init__ K) []) (p_Utf8_is_open : Prp P w K mg base 1 (C_Utf8 K) "is_open" (sp_Utf8_is_open K)) (m_Utf8_take : Met P w K mg base 2 (C_Utf8 K) "take" (sp_Utf8_take K) []) : Cal P w K mg base 3 "decode" (sp_decode K) [] := by
  refine calD F m sc_decode (fun _ _ _ _ _ _ us hl => match us, hl with | [_], _ => rfl) len1 (fun cdv A outer s H vs Q E hr h => ⟨_, (pss_cons (ps_set (i := 1) sc_decode.nd rfl (Or.inl rfl) (pe_mk0 k_Utf8 hr (by decide) rfl))
    (pss_cons (ps_for PassesOwn.never rfl (pi_or (pi_enum rfl nb.enumerate (pa_cons (pv 0) pa_nil)) (pi_enumT rfl nb.enumerate (pa_cons (pv 0) pa_nil))) (pg_tup rfl (pgs_cons (pg_name (i := 2) sc_decode.nd rfl (Or.inl rfl)) (pgs_cons (pg_name (i := 3) sc_decode.nd rfl (Or.inl rfl)) pgs_nil)))
    (pss_one (ps_if (pt_not (pt_val (pe_mt m_Utf8_take hr (by decide) (pv 1) (pa_cons (pv 3) pa_nil))))
    (pss_one (ps_ret (pe_tup (pa_cons pe_non (pa_cons (pv 2) pa_nil)))))
    pss_nil)))
    (pss_cons (ps_if (pt_val (pe_pr p_Utf8_is_open hr (by decide) (pv 1)))
    (pss_one (ps_ret (pe_tup (pa_cons pe_non (pa_cons (pe_op op_sub (pe_callB call_len_seq (by rfl) nb.len PySem.boot_len (pa_cons (pv 0) pa_nil)) pe_int) pa_nil)))))
    pss_nil)
    (pss_one (ps_ret (pe_tup (pa_cons (pe_callTy call_tuple_of (by rfl) nb.tuple (by decide +kernel) (pa_cons (pe_fld (pv 1) rfl) pa_nil)) (pa_cons pe_non pa_nil)))))))), ?_⟩)
  obtain ⟨_, rfl, a, zs, rfl, hR, hn, hgood, hopen, hbad⟩ := h
  walk_at "rd"
  refine d_u8 fun m l H0 hm hl hU hS => ?_
  have hR0 := row_same hR hS
  walk_at "rd"
  refine r_enumRow rfl hR0 (fun i σ H' => ∃ y y' s, σ = [some (.ref a), some (.ref m), y, y'] ∧ U8At K H' m l s ∧ u8run u80 (zs.take i) = some s ∧ s.ps.length ≤ i ∧ Same H H') ⟨_, _, u80, rfl, hU, rfl, Nat.le_refl _, hS⟩ ?_ ?_ ?_
  · rintro i σ H' ⟨y, y', s, _, _, _, _, g⟩ u z
    rcases hR with q | q
    · have e1 := hS _ _ q
      rw [e1] at z
      cases z
      exact g _ _ q
    · have e1 := hS _ _ q
      rw [e1] at z
      cases z
      exact g _ _ q
  · rintro i z σ H1 T hz ⟨y, y', s, rfl, g1, g2, g3, g4⟩ hT
    have hi := (List.getElem?_eq_some_iff.mp hz).1
    have g5 := u8_new (o := .tup [.int (i : Nat), .int z]) g1 hT
    have g6 := g4.trans (same_upd hT (.tup [.int (i : Nat), .int z]))
    refine r_gtup (SqT.of upd_same) rfl ?_
    generalize upd H1 T (.tup [.int (i : Nat), .int z]) = H2 at g5 g6 ⊢
    walk_at "rd"
    obtain ⟨dx, hA, hL⟩ := id g5
    refine r_mget hA no_Utf8_take ?_
    walk_at "rd"
    refine ⟨_, _, rfl, m, l, s, z, rfl, rfl, g5, by omega, fun H3 hU3 b3 => ?_⟩
    have S3 := but_same hm hl g6 b3
    have e3 := u8take_len s z
    cases hb : (u8take s z).1
    · walk_at "rd"
      refine ⟨by show 2 ≤ sizeLine; decide, fun r hr => ?_⟩
      have hr0 : H r = none := by
        cases e : H r with
        | none => rfl
        | some u => rw [S3 _ _ e] at hr; cases hr
      exact hbad i s z r _ g2 hz hb hr0 upd_same (S3.trans (same_upd hr _))
    · walk_at "rd"
      refine ⟨_, _, _, rfl, hU3, ?_, by omega, S3⟩
      rw [ints_step hz]
      exact u8run_snoc _ _ _ _ g2 hb
  · rintro σ H1 ⟨y, y', s, rfl, g1, g2, g3, g4⟩
    rw [List.take_length] at g2
    walk_at "rd"
    obtain ⟨dx, hA, hL⟩ := id g1
    refine r_pget hA ?_
    refine ⟨_, rfl, m, l, s, rfl, g1, ?_⟩
    walk_at "rd"
    refine r_ite (fun c1 => ?_) (fun c1 => ?_)
    · walk_at "rd"
      refine ⟨a, zs.map V.int, rfl, (row_same hR g4).elim (fun q => .inl (SqL.of q)) (fun q => .inr (SqT.of q)), ?_⟩
      rw [List.length_map]
      walk_at "rd"
      refine ⟨by show 2 ≤ sizeLine; decide, fun r hr => ?_⟩
      have hr0 : H r = none := by
        cases e : H r with
        | none => rfl
        | some u => rw [g4 _ _ e] at hr; cases hr
      exact hopen s r _ g2 c1 hr0 upd_same (g4.trans (same_upd hr _))
    · walk_at "rd"
      refine r_fget hA nb.cl_Utf8 nb.na_Utf8_points lk_Utf8_points ?_
      walk_at "rd"
      refine ⟨l, _, rfl, .inl ⟨SqL.of hL, fun q hq => ?_⟩⟩
      walk_at "rd"
      refine ⟨by show 2 ≤ sizeLine; decide, fun r hr => ?_⟩
      have hq0 : H q = none := by
        cases e : H q with
        | none => rfl
        | some u => rw [g4 _ _ e] at hq; cases hq
      have S5 := g4.trans (same_upd hq (.tup (s.ps.map V.int)))
      have hr0 : H r = none := by
        cases e : H r with
        | none => rfl
        | some u => rw [S5 _ _ e] at hr; cases hr
      exact hgood s q r _ g2 c1 hq0 hr0 ((same_upd hr _) _ _ upd_same) upd_same (S5.trans (same_upd hr _))
end

abbrev s__law_point : Stmt := (top 13)
theorem sc__law_point : FnScope ["state", "edges", "pick"] ["state"] (defScope s__law_point) := ⟨rfl, rfl, rfl, by decide +kernel, rfl, by decide +kernel, by decide +kernel⟩
abbrev s__law_written : Stmt := (top 14)
theorem sc__law_written : FnScope ["point"] ["point"] (defScope s__law_written) := ⟨rfl, rfl, rfl, by decide +kernel, rfl, by decide +kernel, by decide +kernel⟩
abbrev s_law : Stmt := (top 15)
theorem sc_law : FnScope ["script", "state", "k", "points", "octets", "point", "machine", "whole", "rows"] ["script"] (defScope s_law) := ⟨rfl, rfl, rfl, by decide +kernel, rfl, by decide +kernel, by decide +kernel⟩
/-- the state stays when a place changes that was free at an earlier heap -/
theorem LS.away {K : PySem.W.Frag} {S : SC} {H1 H' : Hp} (L1 : LS K S H1) {D : Addr} (hD : H1 D = none) (L : LS K S H') (o : HO) : LS K S (upd H' D o) := by
  obtain ⟨⟨k, l, f, e⟩, h2, h3, h4, h5⟩ := L1
  obtain ⟨⟨k', l', f', e'⟩, h2', _, _, h5'⟩ := L
  have n : ∀ {b : Addr} {u : HO}, H1 b = some u → b ≠ D := fun h z => by
    rw [z, hD] at h
    cases h
  refine ⟨⟨k', l', f', (upd_ne (n e)).trans e'⟩, (upd_ne (n h2)).trans h2', h3, h4, ?_⟩
  rcases h5 with (h | ⟨u, h⟩) | h
  · exact seq_upd h5' (n h)
  · exact seq_upd h5' (n h)
  · exact .inr h
def edges8 : List Int := [0, 127, 128, 2047, 2048, 55295, 57344, 65535, 65536, 1114111]
theorem edges8_point : ∀ c ∈ edges8, Point c := by
  unfold Point
  decide
def sp__law_point (K : Frg) : Sp := sp1 fun a H Q _ => ∃ S, a = .ref S.a ∧ LS K S H ∧ ∀ (c : Int) H', Point c → LS K S H' → Keep S H H' → Q (.int c) H'
def sp__law_written : Sp := sp1 fun a H Q _ => ∃ c, a = .int c ∧ ∀ p H', H p = none → H' p = some (.lst ((enc1 c).map V.int)) → Same H H' → Q (.ref p) H'
theorem shaped_ints (ns : List Int) : SeqAt.shaped (.list (ns.map PyData.int)) = true := PySem.W.ke_shaped_ints ns
theorem shaped_pair (ns : List Int) : SeqAt.shaped (.tuple [.tuple (ns.map PyData.int), .none]) = true := by
  simp [SeqAt.shaped, PyData.canLay0, PyData.canLayAll0, PyData.depth, PyData.depthAll, PySem.W.ke_canLayAll0, PySem.W.ke_depthAll]
section
variable {P : Program} {w : World} {K : PySem.W.Frag} {mg : Str → Option Value} {base : Heap} {f : Addr} {fd : FuncData}
theorem ok__law_written (F : FunD K "_law_written" "_law_written" (defArgs s__law_written) (defBody s__law_written) (defScope s__law_written) [] [] (glAd "_law_written" K) fd) (m : mg "_law_written" = some (.ref (glAd "_law_written" K))) (nb : Nm K mg) : Cal P w K mg base 1 "_law_written" sp__law_written [] := by
  refine calD F m sc__law_written (fun _ _ _ _ _ _ us hl => match us, hl with | [_], _ => rfl) len1 (fun cdv A outer s H vs Q E hr h => ⟨_, (pss_cons (ps_if (pt_cmpR op_lt (pv 0) pe_int (nomark _))
    (pss_one (ps_ret (pe_lst (pa_cons (pv 0) pa_nil))))
    pss_nil)
    (pss_cons (ps_if (pt_cmpR op_lt (pv 0) pe_int (nomark _))
    (pss_one (ps_ret (pe_lst (pa_cons (pe_op op_add pe_int (pe_op op_fdiv (pv 0) pe_int)) (pa_cons (pe_op op_add pe_int (pe_op op_mod (pv 0) pe_int)) pa_nil)))))
    pss_nil)
    (pss_cons (ps_if (pt_cmpR op_lt (pv 0) pe_int (nomark _))
    (pss_one (ps_ret (pe_lst (pa_cons (pe_op op_add pe_int (pe_op op_fdiv (pv 0) pe_int)) (pa_cons (pe_op op_add pe_int (pe_op op_mod (pe_op op_fdiv (pv 0) pe_int) pe_int)) (pa_cons (pe_op op_add pe_int (pe_op op_mod (pv 0) pe_int)) pa_nil))))))
    pss_nil)
    (pss_one (ps_ret (pe_lst (pa_cons (pe_op op_add pe_int (pe_op op_fdiv (pv 0) pe_int)) (pa_cons (pe_op op_add pe_int (pe_op op_mod (pe_op op_fdiv (pv 0) pe_int) pe_int)) (pa_cons (pe_op op_add pe_int (pe_op op_mod (pe_op op_fdiv (pv 0) pe_int) pe_int)) (pa_cons (pe_op op_add pe_int (pe_op op_mod (pv 0) pe_int)) pa_nil)))))))))), ?_⟩)
  obtain ⟨_, rfl, c, rfl, h⟩ := h
  walk_at "rd"
  refine r_ite (fun c1 => ?_) (fun c1 => ?_)
  · walk_at "rd"
    refine ⟨by show 1 ≤ sizeLine; decide, fun p hp => h p _ hp ?_ (same_upd hp _)⟩
    rw [enc_low c1]
    exact upd_same
  walk_at "rd"
  have c1 : 128 ≤ c := by omega
  refine r_ite (fun c2 => ?_) (fun c2 => ?_)
  · walk_at "rd"
    refine ⟨by show 2 ≤ sizeLine; decide, fun p hp => h p _ hp ?_ (same_upd hp _)⟩
    rcases enc_long c1 with ⟨_, _, e2⟩ | ⟨_, _, _, _⟩ | ⟨_, _, _⟩
    · rw [e2]
      exact upd_same
    · omega
    · omega
  walk_at "rd"
  refine r_ite (fun c3 => ?_) (fun c3 => ?_)
  · walk_at "rd"
    refine ⟨by show 3 ≤ sizeLine; decide, fun p hp => h p _ hp ?_ (same_upd hp _)⟩
    rcases enc_long c1 with ⟨_, _, e2⟩ | ⟨_, _, _, e2⟩ | ⟨_, _, _⟩
    · omega
    · rw [e2]
      exact upd_same
    · omega
  · walk_at "rd"
    refine ⟨by show 4 ≤ sizeLine; decide, fun p hp => h p _ hp ?_ (same_upd hp _)⟩
    rcases enc_long c1 with ⟨_, _, e2⟩ | ⟨_, _, _, e2⟩ | ⟨_, _, e2⟩
    · omega
    · omega
    · rw [e2]
      exact upd_same
theorem ok__law_point (F : FunD K "_law_point" "_law_point" (defArgs s__law_point) (defBody s__law_point) (defScope s__law_point) [] [] (glAd "_law_point" K) fd) (m : mg "_law_point" = some (.ref (glAd "_law_point" K))) (nb : Nm K mg) (c__law_next : Cal P w K mg base 1 "_law_next" (sp__law_next K) []) (c__law_big : Cal P w K mg base 2 "_law_big" (sp__law_big K) []) : Cal P w K mg base 3 "_law_point" (sp__law_point K) [] := by
  refine calD F m sc__law_point (fun _ _ _ _ _ _ us hl => match us, hl with | [_], _ => rfl) len1 (fun cdv A outer s H vs Q E hr h => ⟨_, (pss_cons (ps_set (i := 1) sc__law_point.nd rfl (Or.inl rfl) (pe_lst (pa_cons pe_int (pa_cons pe_int (pa_cons pe_int (pa_cons pe_int (pa_cons pe_int (pa_cons pe_int (pa_cons pe_int (pa_cons pe_int (pa_cons pe_int (pa_cons pe_int pa_nil))))))))))))
    (pss_cons (ps_set (i := 2) sc__law_point.nd rfl (Or.inl rfl) (pe_c c__law_next hr (by decide) rfl (pa_cons (pv 0) (pa_cons pe_int pa_nil))))
    (pss_cons (ps_if (pt_cmpR op_eq (pv 2) pe_int (nomark _))
    (pss_one (ps_ret (pe_ix ix_list (pv 1) (pe_c c__law_next hr (by decide) rfl (pa_cons (pv 0) (pa_cons pe_int pa_nil))) (fun _ _ => rfl))))
    pss_nil)
    (pss_cons (ps_if (pt_cmpR op_eq (pv 2) pe_int (nomark _))
    (pss_one (ps_ret (pe_c c__law_big hr (by decide) rfl (pa_cons (pv 0) (pa_cons pe_int pa_nil)))))
    pss_nil)
    (pss_cons (ps_if (pt_cmpR op_eq (pv 2) pe_int (nomark _))
    (pss_one (ps_ret (pe_op op_add pe_int (pe_c c__law_big hr (by decide) rfl (pa_cons (pv 0) (pa_cons pe_int pa_nil))))))
    pss_nil)
    (pss_one (ps_ret (pe_ix ix_list (pe_lst (pa_cons (pe_op op_add pe_int (pe_c c__law_next hr (by decide) rfl (pa_cons (pv 0) (pa_cons pe_int pa_nil)))) (pa_cons (pe_op op_add pe_int (pe_c c__law_next hr (by decide) rfl (pa_cons (pv 0) (pa_cons pe_int pa_nil)))) pa_nil))) (pe_c c__law_next hr (by decide) rfl (pa_cons (pv 0) (pa_cons pe_int pa_nil))) (fun _ _ => rfl))))))))), ?_⟩)
  obtain ⟨_, rfl, S, rfl, L, h⟩ := h
  walk_at "rd"
  refine ⟨by show 10 ≤ sizeLine; decide, fun p hp => ?_⟩
  have hE : upd H p (.lst (edges8.map V.int)) p = some (.lst (edges8.map V.int)) := upd_same
  have L0 := L.new hp (.lst (edges8.map V.int))
  have k0 : Keep S H (upd H p (.lst (edges8.map V.int))) := Keep.of (same_upd hp _)
  have pa := L.ne_free hp
  walk_at "rd"
  refine d_next L0 (by decide) fun r1 H1 a1 b1 L1 k1 => ?_
  walk_at "rd"
  refine r_ite (fun c1 => ?_) (fun c1 => ?_)
  · walk_at "rd"
    refine d_next L1 (by decide) fun r2 H2 a2 b2 L2 k2 => ?_
    obtain ⟨v, hv, e⟩ := atI_ints (ns := edges8) (k := r2) a2 b2
    refine r_ixL (SqL.of (k2 _ _ pa (k1 _ _ pa hE))) e ?_
    exact h v H2 (edges8_point v hv) L2 ((k0.trans k1).trans k2)
  walk_at "rd"
  refine r_ite (fun c2 => ?_) (fun c2 => ?_)
  · walk_at "rd"
    refine d_next L1 (by decide) fun r2 H2 a2 b2 L2 k2 => ?_
    exact h r2 H2 ⟨by omega, by omega, by omega⟩ L2 ((k0.trans k1).trans k2)
  walk_at "rd"
  refine r_ite (fun c3 => ?_) (fun c3 => ?_)
  · walk_at "rd"
    refine d_next L1 (by decide) fun r2 H2 a2 b2 L2 k2 => ?_
    walk_at "rd"
    exact h _ H2 ⟨by omega, by omega, by omega⟩ L2 ((k0.trans k1).trans k2)
  · walk_at "rd"
    refine d_next L1 (by decide) fun r2 H2 a2 b2 L2 k2 => ?_
    walk_at "rd"
    refine d_next L2 (by decide) fun r3 H3 a3 b3 L3 k3 => ?_
    walk_at "rd"
    refine d_pickI 0 1027 L3 rfl (by show 2 ≤ sizeLine; decide) (by decide) rfl (all_cons ⟨_, rfl, by omega, by omega⟩ (all_cons ⟨_, rfl, by omega, by omega⟩ all_nil)) fun z H5 a5 b5 _ L5 k5 => ?_
    exact h z H5 ⟨by omega, by omega, by omega⟩ L5 (((k0.trans k1).trans (k2.trans k3)).trans k5)
theorem r_lc0 {σ : St} {H : Hp} {Q : VK} {ta : TA} {g : TG} {tt : TT} {te : TE} {vs : List Nat} (h : ta σ H fun ws H1 => ∃ j : Int, ws = [.int j] ∧ -(2 ^ 62) ≤ j ∧ j < 2 ^ 62 ∧ ∀ D, H1 D = none → ∃ W : Nat → Nat → Hp → Prop, (∃ m, W 0 m (upd H1 D (.lst []))) ∧ ∀ i m H, W i m H →
  ((Itr 0 j.toNat).stop i H ∧ Q (.ref D) H) ∨ ((Itr 0 j.toNat).go i H ∧ ∃ Nx : Hp → Prop, (∀ H', Nx H' → ∃ m', m' < m ∧ W (i + 1) m' H') ∧ ∀ x H', (Itr 0 j.toNat).yld i H x H' → g x (wipe σ vs) H' fun σ2 H2 => wipe σ2 vs = wipe σ vs ∧ tt σ2 H2 fun b H3 =>
    if b = true then te σ2 H3 fun y H4 => ∃ acc, H4 D = some (.lst acc) ∧ acc.length < sizeLine ∧ Nx (upd H4 D (.lst (acc ++ [y]))) else Nx H3)) : tLc (iRng1 ta) g tt te vs σ H Q := h
theorem u8run_split : ∀ (zs : List Int) (i : Nat) (s t u : U8) (z : Int), u8run s zs = some t → zs[i]? = some z → u8run s (zs.take i) = some u → (u8take u z).1 = true
  | [], _, _, _, _, _, _, e, _ => by cases e
  | b :: bs, 0, s, t, u, z, h, e, g => by
    cases e
    cases g
    unfold u8run at h
    by_cases c : (u8take s b).1 = true
    · exact c
    · rw [if_neg c] at h
      cases h
  | b :: bs, i + 1, s, t, u, z, h, e, g => by
    unfold u8run at h
    have g : (if (u8take s b).1 = true then u8run (u8take s b).2 (bs.take i) else none) = some u := g
    by_cases c : (u8take s b).1 = true
    · rw [if_pos c] at h g
      exact u8run_split bs i _ t u z h e g
    · rw [if_neg c] at h
      cases h
def Oth (m l wl : Addr) (H H' : Hp) : Prop := ∀ b u, b ≠ m → b ≠ l → b ≠ wl → H b = some u → H' b = some u
theorem Oth.trans {m l wl : Addr} {H H1 H2 : Hp} (a : Oth m l wl H H1) (b : Oth m l wl H1 H2) : Oth m l wl H H2 := fun p u x y z e => b p u x y z (a p u x y z e)
theorem Oth.same {m l wl : Addr} {H H' : Hp} (s : Same H H') : Oth m l wl H H' := fun p u _ _ _ e => s p u e
theorem Oth.but {m l wl : Addr} {H H' : Hp} (s : But m l H H') : Oth m l wl H H' := fun p u x y _ e => s p u x y e
/-- decode of octets that are written for code points -/
theorem want_decode {H : Hp} {Q : VK} {E : XK} {a : Addr} {cs : List Int} (hR : RowAt H a (encs cs)) (hc : ∀ c ∈ cs, Point c) (hn : 4 * cs.length < sizeLine) (h : ∀ q r H', H' q = some (.tup (cs.map V.int)) → H' r = some (.tup [.ref q, .non]) → Same H H' → Q (.ref r) H') :
    sp_decode K ([.ref a] ++ []) H Q E := by
  obtain ⟨t, h1, h2, h3⟩ := u8run_encs cs u80 hc rfl
  have h3 : t.ps = cs := h3
  refine ⟨_, rfl, a, encs cs, rfl, hR, Nat.lt_of_le_of_lt (len_encs cs) hn, ?_, ?_, ?_⟩
  · intro s q r H' g1 _ _ _ g2 g3 g4
    rw [h1] at g1
    cases g1
    rw [h3] at g2
    exact h q r H' g2 g3 g4
  · intro s r H' g1 g2 _ _ _
    rw [h1] at g1
    cases g1
    exact absurd g2 (by omega)
  · intro i s z r H' g1 g2 g3 _ _ _
    rw [u8run_split _ i u80 t s z h1 g2 g1] at g3
    cases g3
theorem ok_law (F : FunD K "law" "law" (defArgs s_law) (defBody s_law) (defScope s_law) [] [] (glAd "law" K) fd) (nb : Nm K mg) (c_encode : Cal P w K mg base 2 "encode" (sp_encode K) []) (k_Utf8 : Mak P w K mg base 1 "Utf8" (C_Utf8 K) (sp_Utf8___init__ K) []) (p_Utf8_is_open : Prp P w K mg base 1 (C_Utf8 K) "is_open" (sp_Utf8_is_open K)) (m_Utf8_take : Met P w K mg base 2 (C_Utf8 K) "take" (sp_Utf8_take K) []) (c_decode : Cal P w K mg base 3 "decode" (sp_decode K) []) (c__law_state : Cal P w K mg base 2 "_law_state" (sp__law_state K) []) (c__law_next : Cal P w K mg base 1 "_law_next" (sp__law_next K) []) (c__law_point : Cal P w K mg base 3 "_law_point" (sp__law_point K) []) (c__law_written : Cal P w K mg base 1 "_law_written" sp__law_written []) : FnOk P w K mg base CX0 4 (glAd "law" K) fd ["script"] (sp_law K) := by
  refine fnD F sc_law len1 (fun cdv A outer s H vs Q E hr h => ⟨_, (pss_cons (ps_set (i := 1) sc_law.nd rfl (Or.inr rfl) (pe_c c__law_state hr (by decide) rfl (pa_cons (pv 0) (pa_cons pe_int pa_nil))))
    (pss_cons (ps_setLc (i := 3) (own := [("k", 2)]) (g := gName 2) (tt := tYes) rfl sc_law.nd rfl rfl (sw_true rfl rfl rfl (by decide +kernel)) (pi_range1 rfl nb.range (pa_cons (pe_c c__law_next hr (by decide) rfl (pa_cons (pv 1) (pa_cons pe_int pa_nil))) pa_nil)) (blkOk_by (N := ["script", "state", "k", "points", "octets", "point", "machine", "whole", "rows"]) (sc := defScope s_law) (by decide +kernel)) (fun _ _ _ _ _ => pg_name (i := 2) sc_law.nd rfl (Or.inl rfl)) (fun _ _ _ _ _ => pts_nil) (fun _ _ _ _ _ => (pe_c c__law_point hr (by decide) rfl (pa_cons (pv 1) pa_nil))))
    (pss_cons (ps_set (i := 4) sc_law.nd rfl (Or.inl rfl) (pe_lst pa_nil))
    (pss_cons (ps_for PassesOwn.never rfl (pi_list (pv 3)) (pg_name (i := 5) sc_law.nd rfl (Or.inl rfl))
    (pss_one (ps_set (i := 4) sc_law.nd rfl (Or.inl rfl) (pe_op op_cat (pv 4) (pe_c c__law_written hr (by decide) rfl (pa_cons (pv 5) pa_nil))))))
    (pss_cons (ps_if (PW.pt (pw_or (pt_cmpR (op_neD hr.units) (pe_c c_encode hr (by decide) rfl (pa_cons (pe_callTy call_tuple_of (by rfl) nb.tuple (by decide +kernel) (pa_cons (pv 3) pa_nil)) pa_nil)) (pv 4) (nomark _)) (pw_or (pt_cmpR (op_neD hr.units) (pe_c c_encode hr (by decide) rfl (pa_cons (pv 3) pa_nil)) (pv 4) (nomark _)) (pw_or1 (pt_cmpR (op_neD hr.units) (pe_c c_decode hr (by decide) rfl (pa_cons (pv 4) pa_nil)) (pe_tup (pa_cons (pe_callTy call_tuple_of (by rfl) nb.tuple (by decide +kernel) (pa_cons (pv 3) pa_nil)) (pa_cons pe_non pa_nil))) (nomark _))))))
    (pss_one (ps_ret pe_bl))
    pss_nil)
    (pss_cons (ps_set (i := 6) sc_law.nd rfl (Or.inl rfl) (pe_mk0 k_Utf8 hr (by decide) rfl))
    (pss_cons (ps_set (i := 7) sc_law.nd rfl (Or.inl rfl) (pe_lst pa_nil))
    (pss_cons (ps_if (PW.pt (pw_or (pt_cmpR op_isnot_bl (pe_pr p_Utf8_is_open hr (by decide) (pv 6)) pe_bl (nomark _)) (pw_or1 (pt_cmpR (op_neD hr.units) (pe_fld (pv 6) rfl) (pe_lst pa_nil) (nomark _)))))
    (pss_one (ps_ret pe_bl))
    pss_nil)
    (pss_cons (ps_for PassesOwn.never rfl (pi_list (pv 3)) (pg_name (i := 5) sc_law.nd rfl (Or.inl rfl))
    (pss_cons (ps_set (i := 8) sc_law.nd rfl (Or.inl rfl) (pe_c c__law_written hr (by decide) rfl (pa_cons (pv 5) pa_nil)))
    (pss_one (ps_for PassesOwn.never rfl (pi_range1 rfl nb.range (pa_cons (pe_callB call_len_seq (by rfl) nb.len PySem.boot_len (pa_cons (pv 8) pa_nil)) pa_nil)) (pg_name (i := 2) sc_law.nd rfl (Or.inl rfl))
    (pss_cons (ps_if (PW.pt (pw_or (pt_cmpR op_isnot_bl (pe_mt m_Utf8_take hr (by decide) (pv 6) (pa_cons (pe_ix ix_list (pv 8) (pv 2) (fun _ _ => rfl)) pa_nil)) pe_bl (nomark _)) (pw_or1 (pt_cmpR op_ne (pe_pr p_Utf8_is_open hr (by decide) (pv 6)) (pe_cmpR op_lt (pe_op op_add (pv 2) pe_int) (pe_callB call_len_seq (by rfl) nb.len PySem.boot_len (pa_cons (pv 8) pa_nil)) (nomark _)) (nomark _)))))
    (pss_one (ps_ret pe_bl))
    pss_nil)
    (pss_cut (ps_if (pt_cmpR op_eq (pe_op op_add (pv 2) pe_int) (pe_callB call_len_seq (by rfl) nb.len PySem.boot_len (pa_cons (pv 8) pa_nil)) (nomark _))
    (pss_one (ps_expr (pe_bm PySem.F.plainAttrs_list PySem.F.slot_list_append PySem.F.type_list_append mt_append (pv 7) (pa_cons (pv 5) pa_nil))))
    pss_nil)
    (pss_one (ps_if (pt_cmpR (op_neD hr.units) (pe_fld (pv 6) rfl) (pv 7) (nomark _))
    (pss_one (ps_ret pe_bl))
    pss_nil))))))))
    (pss_one (ps_ret (pe_cmpR (op_eqD hr.units) (pe_c c_decode hr (by decide) rfl (pa_cons (pe_callTy call_tuple_of (by rfl) nb.tuple (by decide +kernel) (pa_cons (pv 4) pa_nil)) pa_nil)) (pe_tup (pa_cons (pe_callTy call_tuple_of (by rfl) nb.tuple (by decide +kernel) (pa_cons (pv 3) pa_nil)) (pa_cons pe_non pa_nil))) (nomark _))))))))))))), ?_⟩)
  obtain ⟨_, rfl, sl, ns, rfl, hs, h⟩ := h
  walk_at "rd"
  refine ⟨_, _, rfl, sl, ns, _, rfl, rfl, hs, fun S H1 _ _ L1 _ _ => ?_⟩
  walk_at "rd"
  refine r_lc0 ?_
  walk_at "rd"
  refine d_next L1 (by decide) fun n H2 a2 b2 L2 k2 => ?_
  walk_at "rd"
  refine ⟨by omega, by omega, fun D hD => ?_⟩
  refine lc_range (fun i H' => LS K S H' ∧ ∃ cs : List Int, cs.length = i ∧ (∀ c ∈ cs, Point c) ∧ H' D = some (.lst (cs.map V.int))) ⟨L2.new hD _, [], by rfl, fun _ h => absurd h (by simp), upd_same⟩ ?_ ?_
  · rintro i H' hi ⟨L', cs, e1, e2, e3⟩
    walk_at "rd"
    refine ⟨rfl, ?_⟩
    walk_at "rd"
    refine ⟨_, rfl, S, rfl, L', fun c H4 hc L4 k4 => ?_⟩
    refine ⟨_, k4 _ _ (L2.ne_free hD) e3, small1000 (by rw [List.length_map]; omega), L2.away hD L4 _, cs ++ [c], by rw [List.length_append, e1]; rfl, ?_, ?_⟩
    · intro x hx
      rcases List.mem_append.mp hx with q | q
      · exact e2 x q
      · have e5 : x = c := by simpa using q
        rw [e5]
        exact hc
    · rw [upd_same, map_snoc]
  rintro H3 ⟨_, cs, e1, hc, hP⟩
  have hn : cs.length < 12 := by omega
  clear L1 L2 k2
  walk_at "rd"
  refine ⟨Nat.zero_le _, fun o0 ho0 => ?_⟩
  have sm : 4 * cs.length < sizeLine := Nat.lt_of_lt_of_le (show 4 * cs.length < 1000 by omega) (by decide)
  walk_at "rd"
  refine r_itL ?_
  walk_at "rd"
  have hP4 := same_upd ho0 (.lst []) _ _ hP
  refine ⟨D, rfl, ⟨_, SqL.of hP4⟩, r_eachL (xs := cs.map V.int) (fun i σ H' => ∃ o y, σ = [some (.ref sl), some (.ref S.a), none, some (.ref D), some (.ref o), y, none, none, none] ∧ H' o = some (.lst ((encs (cs.take i)).map V.int)) ∧ Same H3 H')
    ⟨_, _, rfl, upd_same, same_upd ho0 _⟩ ?_ ?_ ?_⟩
  · rintro i σ H' ⟨o, y, rfl, g1, g2⟩
    exact SqL.of (g2 _ _ hP)
  · rintro i x σ H' hx ⟨o, y, rfl, g1, g2⟩
    obtain ⟨c, hi, rfl, e⟩ := ints_get hx
    walk_at "rd"
    refine ⟨_, rfl, c, rfl, fun p H5 hp hp5 s5 => ?_⟩
    walk_at "rd"
    refine ⟨o, p, _, _, rfl, rfl, s5 _ _ g1, hp5, ?_, fun q hq => ?_⟩
    · rw [List.length_map, List.length_map]
      have h1 := len_encs (cs.take i)
      have h2 := List.length_take_le' i cs
      have h3 := (len_enc1 c).2
      exact Nat.le_of_lt (small1000 (by omega))
    · walk_at "rd"
      refine ⟨q, _, rfl, ?_, (g2.trans s5).trans (same_upd hq _)⟩
      rw [upd_same, e, encs_snoc, List.map_append]
  rintro σ H5 ⟨o, y, rfl, hO, s5⟩
  rw [List.length_map, List.take_length] at hO
  have hP5 := s5 _ _ hP
  clear hP4
  walk_at "rd"
  refine ⟨D, _, rfl, .inl ⟨SqL.of hP5, fun q hq => ?_⟩⟩
  walk_at "rd"
  refine ⟨_, rfl, q, cs, rfl, .inr upd_same, hc, sm, fun l6 H6 _ hl6 s6 => ?_⟩
  have s56 := (same_upd hq _).trans s6
  walk_at "rd"
  refine r_neDs (d := .list ((encs cs).map PyData.int)) (.lst (SqL.of hl6) (dpa_ints _)) (.lst (SqL.of (s56 _ _ hO)) (dpa_ints _)) (shaped_ints _) ?_
  walk_at "rd"
  refine ⟨_, rfl, D, cs, rfl, .inl (s56 _ _ hP5), hc, sm, fun l7 H7 _ hl7 s7 => ?_⟩
  have s57 := s56.trans s7
  walk_at "rd"
  refine r_neDs (d := .list ((encs cs).map PyData.int)) (.lst (SqL.of hl7) (dpa_ints _)) (.lst (SqL.of (s57 _ _ hO)) (dpa_ints _)) (shaped_ints _) ?_
  walk_at "rd"
  refine want_decode (.inl (s57 _ _ hO)) hc sm fun q8 r8 H8 hq8 hr8 s8 => ?_
  have s58 := s57.trans s8
  walk_at "rd"
  refine ⟨D, _, rfl, .inl ⟨SqL.of (s58 _ _ hP5), fun q9 hq9 => ?_⟩⟩
  walk_at "rd"
  refine ⟨by show 2 ≤ sizeLine; decide, fun r9 hr9 => ?_⟩
  have s89 := (same_upd hq9 (.tup (cs.map V.int))).trans (same_upd hr9 (.tup [.ref q9, .non]))
  refine r_neDs (d := .tuple [.tuple (cs.map PyData.int), .none]) (.tup (SqT.of (s89 _ _ hr8)) (.cons (.tup (SqT.of (s89 _ _ hq8)) (dpa_ints _)) (.cons .non .nil))) (.tup (SqT.of upd_same) (.cons (.tup (SqT.of (same_upd hr9 _ _ _ upd_same)) (dpa_ints _)) (.cons .non .nil))) (shaped_pair _) ?_
  have hO9 := (s58.trans s89) _ _ hO
  have hP9 := (s58.trans s89) _ _ hP5
  generalize upd (upd H8 q9 (.tup (cs.map V.int))) r9 (.tup [.ref q9, .non]) = H9 at hO9 hP9 ⊢
  walk_at "rd"
  refine d_u8 fun m l H10 hm hl hU s10 => ?_
  walk_at "rd"
  refine ⟨Nat.zero_le _, fun wl hwl => ?_⟩
  have hU := u8_new (o := .lst []) hU hwl
  have s911 := s10.trans (same_upd hwl (.lst []))
  have hW : upd H10 wl (.lst []) wl = some (.lst []) := upd_same
  have nm_l := u8_ne hU
  have wm : wl ≠ m := fun e => by
    obtain ⟨dx, z, _⟩ := hU
    rw [← e, hW] at z
    cases z
  have wll : wl ≠ l := fun e => by
    obtain ⟨dx, _, z⟩ := id ‹U8At K H10 m l u80›
    rw [← e, hwl] at z
    cases z
  have ne3 : ∀ b u, H9 b = some u → b ≠ m ∧ b ≠ l ∧ b ≠ wl := fun b u z => by
    refine ⟨?_, ?_, ?_⟩
    · rintro rfl
      rw [hm] at z
      cases z
    · rintro rfl
      rw [hl] at z
      cases z
    · rintro rfl
      rw [s10 _ _ z] at hwl
      cases hwl
  have hO11 := s911 _ _ hO9
  have hP11 := s911 _ _ hP9
  generalize upd H10 wl (.lst []) = H11 at hU hW hO11 hP11 ⊢
  obtain ⟨nP1, nP2, nP3⟩ := ne3 D _ hP9
  obtain ⟨nO1, nO2, nO3⟩ := ne3 o _ hO9
  obtain ⟨dx, hA, hL⟩ := id hU
  walk_at "rd"
  refine r_pget hA ?_
  refine ⟨_, rfl, m, l, u80, rfl, hU, ?_⟩
  walk_at "rd"
  refine ⟨_, false, rfl, rfl, ?_⟩
  rw [show (!decide (decide (u80.ms > 0) = false)) = false from by decide]
  walk_at "rd"
  refine r_fget hA nb.cl_Utf8 nb.na_Utf8_points lk_Utf8_points ?_
  walk_at "rd"
  refine ⟨Nat.zero_le _, fun e0 he0 => ?_⟩
  have s12 := same_upd he0 (.lst [])
  refine r_neDs (d := .list []) (.lst (SqL.of (s12 _ _ hL)) .nil) (.lst (SqL.of upd_same) .nil) (by decide) ?_
  have hU := u8_new (o := .lst []) hU he0
  have hW := s12 _ _ hW
  have hO12 := s12 _ _ hO11
  have hP12 := s12 _ _ hP11
  generalize upd H11 e0 (.lst []) = H12 at hU hW hO12 hP12 ⊢
  walk_at "rd"
  refine r_itL ?_
  walk_at "rd"
  refine ⟨D, rfl, ⟨_, SqL.of hP12⟩, r_eachL (xs := cs.map V.int) (fun i σ H' => ∃ (k y rw : Option V) (t : U8), σ = [some (.ref sl), some (.ref S.a), k, some (.ref D), some (.ref o), y, some (.ref m), some (.ref wl), rw] ∧ U8At K H' m l t ∧ t.ms = 0 ∧ t.ps = cs.take i ∧ H' wl = some (.lst ((cs.take i).map V.int)) ∧ Oth m l wl H12 H')
    ⟨_, _, _, u80, rfl, hU, rfl, rfl, hW, fun _ _ _ _ _ z => z⟩ ?_ ?_ ?_⟩
  · rintro i σ H' ⟨_, _, _, _, rfl, _, _, _, _, g⟩
    exact SqL.of (g _ _ nP1 nP2 nP3 hP12)
  · rintro i x σ H' hx ⟨k, y, rw0, t, rfl, g1, g2, g3, g4, g5⟩
    obtain ⟨c, hi, rfl, e⟩ := ints_get hx
    obtain ⟨T, t0, tS, tm, tp, tk⟩ := u8char (hc c (List.mem_of_getElem? hi)) t g2
    have hil : i < cs.length := (List.getElem?_eq_some_iff.mp hi).1
    have hl4 := (len_enc1 c).2
    walk_at "rd"
    refine ⟨_, rfl, c, rfl, fun rw H13 hrw hr13 s13 => ?_⟩
    have nr : rw ≠ m ∧ rw ≠ l ∧ rw ≠ wl := by
      obtain ⟨dx, z1, z2⟩ := g1
      exact ⟨fun e => (by rw [← e, hrw] at z1; cases z1), fun e => (by rw [← e, hrw] at z2; cases z2), fun e => (by rw [← e, hrw] at g4; cases g4)⟩
    obtain ⟨nr1, nr2, nr3⟩ := nr
    walk_at "rd"
    refine ⟨rw, _, rfl, .inl (SqL.of hr13), ?_⟩
    rw [List.length_map]
    walk_at "rd"
    refine r_turns (by omega) (by omega) (fun k σ H' => ∃ kk : Option V, σ = [some (.ref sl), some (.ref S.a), kk, some (.ref D), some (.ref o), some (.int c), some (.ref m), some (.ref wl), some (.ref rw)] ∧ U8At K H' m l (T k) ∧
      H' wl = some (.lst ((if k = (enc1 c).length then cs.take (i + 1) else cs.take i).map V.int)) ∧ H' rw = some (.lst ((enc1 c).map V.int)) ∧ Oth m l wl H12 H') ⟨_, rfl, ?_, ?_, hr13, g5.trans (Oth.same s13)⟩ ?_ ?_
    · rw [t0]
      obtain ⟨dx, z1, z2⟩ := g1
      exact ⟨dx, s13 _ _ z1, s13 _ _ z2⟩
    · rw [if_neg (by have := (len_enc1 c).1; omega)]
      exact s13 _ _ g4
    · rintro k σ H' hk ⟨kk, rfl, f1, f2, f3, f4⟩
      have hk : k < (enc1 c).length := by omega
      obtain ⟨dx, z1, z2⟩ := id f1
      have hb : (enc1 c)[k]? = some (enc1 c)[k] := List.getElem?_eq_getElem hk
      have e5 := tS k _ hb
      obtain ⟨tk1, tk2⟩ := tk k hk
      walk_at "rd"
      refine r_mget z1 no_Utf8_take ?_
      walk_at "rd"
      refine r_ixL (SqL.of f3) (atI_nat (by rw [List.getElem?_map, hb]; rfl)) ?_
      walk_at "rd"
      refine ⟨_, _, rfl, m, l, T k, (enc1 c)[k], rfl, rfl, f1, ?_, fun H14 hU14 b14 => ?_⟩
      · rw [tk1, g3]
        exact small1000 (by have := List.length_take_le' i cs; omega)
      rw [e5] at hU14 ⊢
      have hU14 : U8At K H14 m l (T (k + 1)) := hU14
      walk_at "rd"
      have f2' : H14 wl = some (.lst ((cs.take i).map V.int)) := by
        rw [if_neg (by omega)] at f2
        exact b14 _ _ wm wll f2
      have f3' := b14 _ _ nr1 nr2 f3
      have f4' := f4.trans (Oth.but b14)
      have emo : decide ((T (k + 1)).ms > 0) = decide (((k : Nat) : Int) + 1 < (((enc1 c).length : Nat) : Int)) := by
        by_cases q : k + 1 < (enc1 c).length
        · rw [decide_eq_true ((tk (k + 1) q).2 (by omega)), decide_eq_true (by omega)]
        · have q' : k + 1 = (enc1 c).length := by omega
          rw [q', tm, decide_eq_false (by omega), decide_eq_false (by omega)]
      have eps : (T (k + 1)).ps = if k + 1 = (enc1 c).length then cs.take (i + 1) else cs.take i := by
        by_cases q : k + 1 = (enc1 c).length
        · rw [if_pos q, q, tp, g3, e]
        · rw [if_neg q, (tk (k + 1) (by omega)).1, g3]
      refine ⟨_, true, rfl, rfl, ?_⟩
      rw [show (!decide ((true, T (k + 1)).1 = true)) = false from rfl]
      walk_at "rd"
      obtain ⟨dx', y1, y2⟩ := id hU14
      refine r_pget y1 ?_
      refine ⟨_, rfl, m, l, T (k + 1), rfl, hU14, ?_⟩
      walk_at "rd"
      refine ⟨rw, _, rfl, .inl (SqL.of f3'), ?_⟩
      rw [List.length_map]
      walk_at "rd"
      refine r_neB ?_
      rw [emo, decide_eq_true rfl]
      walk_at "rd"
      refine r_cut (fun σ H' => σ = [some (.ref sl), some (.ref S.a), some (.int (k : Nat)), some (.ref D), some (.ref o), some (.int c), some (.ref m), some (.ref wl), some (.ref rw)] ∧ U8At K H' m l (T (k + 1)) ∧
        H' wl = some (.lst ((if k + 1 = (enc1 c).length then cs.take (i + 1) else cs.take i).map V.int)) ∧ H' rw = some (.lst ((enc1 c).map V.int)) ∧ Oth m l wl H12 H') ?_ ?_
      · walk_at "rd"
        refine ⟨rw, _, rfl, .inl (SqL.of f3'), ?_⟩
        rw [List.length_map]
        walk_at "rd"
        refine r_ite (fun q => ?_) (fun q => ?_)
        · walk_at "rd"
          refine ⟨tyL f2', ?_⟩
          walk_at "rd"
          refine r_appK f2' (small1000 (by have := List.length_take_le' i cs; rw [List.length_map]; omega)) fun H15 hL15 f15 => ?_
          refine ⟨rfl, ⟨dx', ?_, ?_⟩, ?_, ?_, fun b u p1 p2 p3 z => ?_⟩
          · rw [f15 m (Ne.symm wm)]
            exact y1
          · rw [f15 l (Ne.symm wll)]
            exact y2
          · rw [hL15, map_snoc, if_pos (by omega), e]
          · rw [f15 rw nr3]
            exact f3'
          · rw [f15 b p3]
            exact f4' b u p1 p2 p3 z
        · walk_at "rd"
          refine ⟨rfl, hU14, ?_, f3', f4'⟩
          rw [if_neg (by omega)]
          exact f2'
      rintro σ H15 ⟨rfl, v1, v2, v3, v4⟩
      obtain ⟨dy, w1, w2⟩ := id v1
      walk_at "rd"
      refine r_fget w1 nb.cl_Utf8 nb.na_Utf8_points lk_Utf8_points ?_
      walk_at "rd"
      rw [eps] at w2
      refine r_neDs (.lst (SqL.of w2) (dpa_ints _)) (.lst (SqL.of v2) (dpa_ints _)) (shaped_ints _) ?_
      walk_at "rd"
      exact ⟨_, rfl, v1, v2, v3, v4⟩
    · rintro σ H' ⟨kk, rfl, f1, f2, f3, f4⟩
      rw [Int.toNat_natCast] at f1 f2
      rw [if_pos rfl] at f2
      refine ⟨_, _, _, T (enc1 c).length, rfl, f1, tm, ?_, f2, f4⟩
      rw [tp, g3, e]
  · rintro σ H' ⟨k, y, rw0, t, rfl, g1, g2, g3, g4, g5⟩
    walk_at "rd"
    refine ⟨o, _, rfl, .inl ⟨SqL.of (g5 _ _ nO1 nO2 nO3 hO12), fun q hq => ?_⟩⟩
    walk_at "rd"
    refine want_decode (.inr upd_same) hc sm fun q8 r8 H8 hq8 hr8 s8 => ?_
    walk_at "rd"
    have hP8 := s8 _ _ (same_upd hq (.tup ((encs cs).map V.int)) _ _ (g5 _ _ nP1 nP2 nP3 hP12))
    refine ⟨D, _, rfl, .inl ⟨SqL.of hP8, fun q9 hq9 => ?_⟩⟩
    walk_at "rd"
    refine ⟨by show 2 ≤ sizeLine; decide, fun r9 hr9 => ?_⟩
    have s89 := (same_upd hq9 (.tup (cs.map V.int))).trans (same_upd hr9 (.tup [.ref q9, .non]))
    refine r_eqDs (d := .tuple [.tuple (cs.map PyData.int), .none]) (.tup (SqT.of (s89 _ _ hr8)) (.cons (.tup (SqT.of (s89 _ _ hq8)) (dpa_ints _)) (.cons .non .nil))) (.tup (SqT.of upd_same) (.cons (.tup (SqT.of (same_upd hr9 _ _ _ upd_same)) (dpa_ints _)) (.cons .non .nil))) (shaped_pair _) ?_
    exact h _
end

def d__encode_long : DefM := { ad := glAd "_encode_long", nm := "_encode_long", ql := "_encode_long", pa := defArgs s__encode_long, bo := defBody s__encode_long, sc := defScope s__encode_long }
def d_encode : DefM := { ad := glAd "encode", nm := "encode", ql := "encode", pa := defArgs s_encode, bo := defBody s_encode, sc := defScope s_encode }
def d_Utf8___init__ : DefM := { ad := meAd "Utf8" "__init__", nm := "__init__", ql := "Utf8.__init__", pa := defArgs s_Utf8___init__, bo := defBody s_Utf8___init__, sc := defScope s_Utf8___init__ }
def d_Utf8_is_open : DefM := { ad := prAd "Utf8" "is_open", nm := "is_open", ql := "Utf8.is_open", pa := defArgs s_Utf8_is_open, bo := defBody s_Utf8_is_open, sc := defScope s_Utf8_is_open }
def d_Utf8__begin : DefM := { ad := meAd "Utf8" "_begin", nm := "_begin", ql := "Utf8._begin", pa := defArgs s_Utf8__begin, bo := defBody s_Utf8__begin, sc := defScope s_Utf8__begin }
def d_Utf8__go_on : DefM := { ad := meAd "Utf8" "_go_on", nm := "_go_on", ql := "Utf8._go_on", pa := defArgs s_Utf8__go_on, bo := defBody s_Utf8__go_on, sc := defScope s_Utf8__go_on }
def d_Utf8_take : DefM := { ad := meAd "Utf8" "take", nm := "take", ql := "Utf8.take", pa := defArgs s_Utf8_take, bo := defBody s_Utf8_take, sc := defScope s_Utf8_take }
def d_decode : DefM := { ad := glAd "decode", nm := "decode", ql := "decode", pa := defArgs s_decode, bo := defBody s_decode, sc := defScope s_decode }
def d__law_cell : DefM := { ad := glAd "_law_cell", nm := "_law_cell", ql := "_law_cell", pa := defArgs s__law_cell, bo := defBody s__law_cell, sc := defScope s__law_cell }
def d__law_numbers : DefM := { ad := glAd "_law_numbers", nm := "_law_numbers", ql := "_law_numbers", pa := defArgs s__law_numbers, bo := defBody s__law_numbers, sc := defScope s__law_numbers }
def d__law_state : DefM := { ad := glAd "_law_state", nm := "_law_state", ql := "_law_state", pa := defArgs s__law_state, bo := defBody s__law_state, sc := defScope s__law_state }
def d__law_next : DefM := { ad := glAd "_law_next", nm := "_law_next", ql := "_law_next", pa := defArgs s__law_next, bo := defBody s__law_next, sc := defScope s__law_next }
def d__law_big : DefM := { ad := glAd "_law_big", nm := "_law_big", ql := "_law_big", pa := defArgs s__law_big, bo := defBody s__law_big, sc := defScope s__law_big }
def d__law_point : DefM := { ad := glAd "_law_point", nm := "_law_point", ql := "_law_point", pa := defArgs s__law_point, bo := defBody s__law_point, sc := defScope s__law_point }
def d__law_written : DefM := { ad := glAd "_law_written", nm := "_law_written", ql := "_law_written", pa := defArgs s__law_written, bo := defBody s__law_written, sc := defScope s__law_written }
def d_law : DefM := { ad := glAd "law", nm := "law", ql := "law", pa := defArgs s_law, bo := defBody s_law, sc := defScope s_law }
def fn : List DefM := [d__encode_long, d_encode, d_Utf8___init__, d_Utf8_is_open, d_Utf8__begin, d_Utf8__go_on, d_Utf8_take, d_decode, d__law_cell, d__law_numbers, d__law_state, d__law_next, d__law_big, d__law_point, d__law_written, d_law]
def fa : List He.Fa := [.glo "_encode_long", .glo "encode", .glo "decode", .glo "_law_cell", .glo "_law_numbers", .glo "_law_state", .glo "_law_next", .glo "_law_big", .glo "_law_point", .glo "_law_written", .glo "law", .free "range", .free "enumerate", .free "len", .free "tuple", .free "abs", .free "int", .cls "Utf8", .glo "Utf8", .mkr "Utf8", .noat "Utf8" "points", .noat "Utf8" "_missing", .noat "Utf8" "_worth", .noat "Utf8" "_least", .noat "Utf8" "_most", .meth "Utf8" "take", .meth "Utf8" "_begin", .meth "Utf8" "_go_on"]
def ex (K : Frg) : Bool := conB K "MARKS" (.tuple [.int 0, .int 192, .int 224, .int 240]) && (conB K "FIRSTS" (.tuple [.tuple [.int 194, .int 223, .int 1, .int 128, .int 191], .tuple [.int 224, .int 224, .int 2, .int 160, .int 191], .tuple [.int 225, .int 236, .int 2, .int 128, .int 191], .tuple [.int 237, .int 237, .int 2, .int 128, .int 159], .tuple [.int 238, .int 239, .int 2, .int 128, .int 191], .tuple [.int 240, .int 240, .int 3, .int 144, .int 191], .tuple [.int 241, .int 243, .int 3, .int 128, .int 191], .tuple [.int 244, .int 244, .int 3, .int 128, .int 143]]) && (prB K "Utf8" "is_open" && (digB K)))
abbrev RR : PySem.W.OpenRow := PySem.W.OpenLaw.row PySem.Challenge.rw_formsalike_k06_utf8_there_and_back
def loose : List PySem.Str := (["MARKS", "FIRSTS", "encode", "_encode_long", "Utf8", "decode", "_law_cell", "_law_numbers", "_law_state", "_law_next", "_law_big", "_law_point", "_law_written"] : List PySem.Str)
abbrev hk : PySem.W.Hook := hookM 5 fa ex fn
def ob (s : PySem.W.SharedT) : AlM := obsM fa ex fn (frM 5 (HandSHeadRun.getT s))
theorem ob_eq (s : PySem.W.SharedT) : ob s = hk.obs s.abs := obsM_eq (HandSHeadRun.getT_eq s)
theorem run (w : World) : HandSHeadRun.RunEq RR (PySem.W.view RR.prog [15]) hk ob 6000 loose w := by
  intro os
  kernel_rfl
theorem facts {P : Program} {w : World} {K : PySem.W.Frag} {h : Heap} {mg : Str → Option Value} {f : Addr} (X : K.In h) (G : h.Ns mainGlobals mg) (hfa : mg ("law" : Str) = some (.ref f)) (c : SaysM fa ex fn K) :
    ∃ fd : FuncData, (∀ (s : Shared) (v : Value), BindsTo s fd ⟨[v], []⟩ [("script", v)]) ∧ ∀ base : Heap, K.In base → base.Ns mainGlobals mg → FnOk P w K mg base CX0 4 f fd ["script"] (sp_law K) := by
  obtain ⟨fd__encode_long, F__encode_long⟩ := c.def_ 0 (d := d__encode_long) rfl
  obtain ⟨fd_encode, F_encode⟩ := c.def_ 1 (d := d_encode) rfl
  obtain ⟨fd_Utf8___init__, F_Utf8___init__⟩ := c.def_ 2 (d := d_Utf8___init__) rfl
  obtain ⟨fd_Utf8_is_open, F_Utf8_is_open⟩ := c.def_ 3 (d := d_Utf8_is_open) rfl
  obtain ⟨fd_Utf8__begin, F_Utf8__begin⟩ := c.def_ 4 (d := d_Utf8__begin) rfl
  obtain ⟨fd_Utf8__go_on, F_Utf8__go_on⟩ := c.def_ 5 (d := d_Utf8__go_on) rfl
  obtain ⟨fd_Utf8_take, F_Utf8_take⟩ := c.def_ 6 (d := d_Utf8_take) rfl
  obtain ⟨fd_decode, F_decode⟩ := c.def_ 7 (d := d_decode) rfl
  obtain ⟨fd__law_cell, F__law_cell⟩ := c.def_ 8 (d := d__law_cell) rfl
  obtain ⟨fd__law_numbers, F__law_numbers⟩ := c.def_ 9 (d := d__law_numbers) rfl
  obtain ⟨fd__law_state, F__law_state⟩ := c.def_ 10 (d := d__law_state) rfl
  obtain ⟨fd__law_next, F__law_next⟩ := c.def_ 11 (d := d__law_next) rfl
  obtain ⟨fd__law_big, F__law_big⟩ := c.def_ 12 (d := d__law_big) rfl
  obtain ⟨fd__law_point, F__law_point⟩ := c.def_ 13 (d := d__law_point) rfl
  obtain ⟨fd__law_written, F__law_written⟩ := c.def_ 14 (d := d__law_written) rfl
  obtain ⟨fd_law, F_law⟩ := c.def_ 15 (d := d_law) rfl
  have m__encode_long := He.glo_ok X G (x := "_encode_long") (c.fact 0 rfl)
  have m_encode := He.glo_ok X G (x := "encode") (c.fact 1 rfl)
  have m_decode := He.glo_ok X G (x := "decode") (c.fact 2 rfl)
  have m__law_cell := He.glo_ok X G (x := "_law_cell") (c.fact 3 rfl)
  have m__law_numbers := He.glo_ok X G (x := "_law_numbers") (c.fact 4 rfl)
  have m__law_state := He.glo_ok X G (x := "_law_state") (c.fact 5 rfl)
  have m__law_next := He.glo_ok X G (x := "_law_next") (c.fact 6 rfl)
  have m__law_big := He.glo_ok X G (x := "_law_big") (c.fact 7 rfl)
  have m__law_point := He.glo_ok X G (x := "_law_point") (c.fact 8 rfl)
  have m__law_written := He.glo_ok X G (x := "_law_written") (c.fact 9 rfl)
  have m_law := He.glo_ok X G (x := "law") (c.fact 10 rfl)
  have xx : ex K = true := c.more
  have x0 := (both xx).1
  replace xx := (both xx).2
  have x1 := (both xx).1
  replace xx := (both xx).2
  have x2 := (both xx).1
  replace xx := (both xx).2
  have x3 := xx
  have nb : Nm K mg := ⟨He.free_ok X G (c.fact 11 rfl),
    He.free_ok X G (c.fact 12 rfl),
    He.free_ok X G (c.fact 13 rfl),
    He.free_ok X G (c.fact 14 rfl),
    He.free_ok X G (c.fact 15 rfl),
    He.free_ok X G (c.fact 16 rfl),
    conM X G x0,
    conM X G x1,
    He.cls_ok (c.fact 17 rfl),
    He.glo_ok X G (c.fact 18 rfl),
    He.mkr_ok (c.fact 19 rfl),
    He.noat_ok (c.fact 20 rfl),
    He.noat_ok (c.fact 21 rfl),
    He.noat_ok (c.fact 22 rfl),
    He.noat_ok (c.fact 23 rfl),
    He.noat_ok (c.fact 24 rfl),
    prM x2,
    He.meth_ok (c.fact 25 rfl),
    He.meth_ok (c.fact 26 rfl),
    He.meth_ok (c.fact 27 rfl),
    He.eqO_ok x3⟩
  have e := hfa.symm.trans m_law
  cases e
  have b := FunD.bindsA (ps := ["script"]) F_law fun _ _ _ _ _ _ us hl => match us, hl with | [_], _ => rfl
  refine ⟨fd_law, fun s v => b s [v] rfl, fun base _ _ => ?_⟩
  have c__encode_long := ok__encode_long (P := P) (w := w) (base := base) F__encode_long m__encode_long nb
  have c_encode := ok_encode (P := P) (w := w) (base := base) F_encode m_encode nb c__encode_long
  have k_Utf8 := ok_Utf8___init__ (P := P) (w := w) (base := base) F_Utf8___init__ nb
  have p_Utf8_is_open := ok_Utf8_is_open (P := P) (w := w) (base := base) F_Utf8_is_open nb
  have m_Utf8__begin := ok_Utf8__begin (P := P) (w := w) (base := base) F_Utf8__begin nb
  have m_Utf8__go_on := ok_Utf8__go_on (P := P) (w := w) (base := base) F_Utf8__go_on nb
  have m_Utf8_take := ok_Utf8_take (P := P) (w := w) (base := base) F_Utf8_take nb m_Utf8__begin m_Utf8__go_on
  have c_decode := ok_decode (P := P) (w := w) (base := base) F_decode m_decode nb k_Utf8 p_Utf8_is_open m_Utf8_take
  have c__law_cell := ok__law_cell (P := P) (w := w) (base := base) F__law_cell m__law_cell nb
  have c__law_numbers := ok__law_numbers (P := P) (w := w) (base := base) F__law_numbers m__law_numbers nb
  have c__law_state := ok__law_state (P := P) (w := w) (base := base) F__law_state m__law_state nb c__law_cell c__law_numbers
  have c__law_next := ok__law_next (P := P) (w := w) (base := base) F__law_next m__law_next nb
  have c__law_big := ok__law_big (P := P) (w := w) (base := base) F__law_big m__law_big nb c__law_cell c__law_next
  have c__law_point := ok__law_point (P := P) (w := w) (base := base) F__law_point m__law_point nb c__law_next c__law_big
  have c__law_written := ok__law_written (P := P) (w := w) (base := base) F__law_written m__law_written nb
  exact ok_law F_law nb c_encode k_Utf8 p_Utf8_is_open m_Utf8_take c_decode c__law_state c__law_next c__law_point c__law_written
end Fa
open PySem PySem.W PySem.Calls PyProof.Rows
theorem PySem.Challenge.cw_formsalike_k06_utf8_there_and_back_holds : PySem.Challenge.rw_formsalike_k06_utf8_there_and_back.Holds := by
  w_on; o_law
  refine HandSHeadRun.head_any (r := OpenLaw.row PySem.Challenge.rw_formsalike_k06_utf8_there_and_back) (q := view (OpenLaw.row PySem.Challenge.rw_formsalike_k06_utf8_there_and_back).prog [15]) (H := Fa.hk) (ob := Fa.ob) (M := 6000) (loose := Fa.loose) (d := HandSHeadRun.topDef (OpenLaw.row PySem.Challenge.rw_formsalike_k06_utf8_there_and_back).prog 15) (kwd := []) Fa.ob_eq
    (by kernel_rfl) (fun s => by kernel_rfl) Fa.run (by kernel_rfl) (by kernel_rfl) (by kernel_rfl) (by rfl) (by first | assumption | decide +kernel) (by decide +kernel) ⟨rfl, rfl, rfl, rfl, rfl, by decide +kernel⟩ ?hw ?hc
  case hw => w_witness2
  case hc =>
    refine L2.walk_ofE (l := PySem.Challenge.rw_formsalike_k06_utf8_there_and_back) (n := 63) (k := 4) (x := "script") (CX := L2.CX0) rfl (by decide) (by kernel_rfl) ⟨rfl, by decide, by decide⟩ ?F (fun _ _ _ _ z => z)
    intro w mg fa h Y G hmg0
    obtain ⟨K, KX, c⟩ := Y
    have hmg : mg ("law" : PySem.Str) = some (.ref fa) := by
      have e : (HandSHeadRun.topDef (OpenLaw.row PySem.Challenge.rw_formsalike_k06_utf8_there_and_back).prog 15).name = ("law" : PySem.Str) := by kernel_rfl
      rw [← e]
      exact hmg0
    obtain ⟨fd, hb, hF⟩ := Fa.facts (P := (PySem.Challenge.rw_formsalike_k06_utf8_there_and_back).prog) (w := w) KX G hmg c
    exact ⟨K, fd, Fa.sp_law K, KX, hb, fun H a ns hl _ hS => ⟨_, rfl, a, ns, rfl, hS, fun _ => rfl⟩, hF⟩
