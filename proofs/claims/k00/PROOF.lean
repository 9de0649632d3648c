import PyProof.Rows.All
import Wide.All
import OpenK.AllK
import Wide.FinOn
import KE.KStateDown
import KE.GoesMore
import KE.GoesEnum
import HandS.Iter
import HandS.TupLe
import HandS.Deep
import KE.KEqSeq
import KE.KEqDeep
import HandS.ForMost
import HandS.Exc
import HandS.More
import HandS.Wide
import HandS.Property
import HandS.WideBits
import HandS.Conv
import HandS.Codes
import HandS.IsInst
import HandS.Flow
import HandS.Defaults
import HandS.EndBits
import HandS.Head0
import HandS.Head1
import HandS.Head2
import HandS.HeadEnd
import HandS.HeadHook1
import HandS.HeadHook2
import HandS.NoneIn
import HandS.TupAny
import HandS.Style
import HandS.SortRule
import HandS.DictTup
import HandS.TupLe
import HandS.Deep
import PySem.Challenge.RW_formsalike_k00_values_told_apart
set_option Elab.async false
set_option linter.all false
set_option maxRecDepth 100000
set_option maxHeartbeats 4000000
namespace Fa
open PySem PySem.Spec L2 SX
open PyProof.Rows (envOfC)
open C8 (Cal pe_c Mak pe_mk Met pe_mt pe_mt0 pe_gc tCut pss_cut)
def top (i : Nat) : Stmt := PySem.Challenge.pw_formsalike_k00_values_told_apart.main.body.getD i (.Pass ⟨0, 0, 0, 0⟩)

/-! ### readings, a step each -/
section
variable {σ : St} {H : Hp} {n b c : St → Hp → Prop} {r : VK} {Q : VK} {K : PySem.W.Frag}
theorem r_seq {t u : TS} (h : t ⟨u ⟨n, r, b, c⟩, r, b, c⟩ σ H) : tSeq t u ⟨n, r, b, c⟩ σ H := h
theorem r_asg {te : TE} {g : TG} (h : te σ H fun x H1 => g x σ H1 n) : tAsg te g ⟨n, r, b, c⟩ σ H := h
theorem r_name {i : Nat} {v : V} {R : St → Hp → Prop} (h : R (σ.set i (some v)) H) : gName i v σ H R := h
theorem r_var {i : Nat} {v : V} (e : σ[i]? = some (some v)) (h : Q v H) : tVar i σ H Q := ⟨v, e, h⟩
theorem r_c {v : V} (h : Q v H) : tC v σ H Q := h
theorem r_op {r : R2} {ta tb : TE} (h : ta σ H fun x H1 => tb σ H1 fun y H2 => r x y H2 Q) : tOp r ta tb σ H Q := h
theorem r_un {r : V → Hp → VK → Prop} {ta : TE} (h : ta σ H fun x H1 => r x H1 Q) : tUn r ta σ H Q := h
theorem r_I0 {g : Int → Int → V} {i j : Int} (h : Q (g i j) H) : rI0 g (.int i) (.int j) H Q := ⟨i, j, rfl, rfl, h⟩
theorem r_I {C : Int → Int → Prop} {g : Int → Int → V} {i j : Int} (c : C i j) (h : Q (g i j) H) : rI C g (.int i) (.int j) H Q := ⟨i, j, rfl, rfl, c, h⟩
theorem r_U {g : Int → V} {i : Int} (h : Q (g i) H) : rU g (.int i) H Q := ⟨i, rfl, h⟩
theorem r_eqI {i j : Int} (h : Q (.bl (decide (i = j))) H) : rEq (.int i) (.int j) H Q := by
  have e : decide (V.int i = V.int j) = decide (i = j) := by simp
  exact ⟨rfl, by rw [e]; exact h⟩
theorem r_neI {i j : Int} (h : Q (.bl (!decide (i = j))) H) : rNe (.int i) (.int j) H Q := by
  have e : decide (V.int i = V.int j) = decide (i = j) := by simp
  exact ⟨rfl, by rw [e]; exact h⟩
theorem r_eqS {i j : Str} (h : Q (.bl (decide (i = j))) H) : rEq (.str i) (.str j) H Q := by
  have e : decide (V.str i = V.str j) = decide (i = j) := by simp
  exact ⟨rfl, by rw [e]; exact h⟩
theorem r_neS {i j : Str} (h : Q (.bl (!decide (i = j))) H) : rNe (.str i) (.str j) H Q := by
  have e : decide (V.str i = V.str j) = decide (i = j) := by simp
  exact ⟨rfl, by rw [e]; exact h⟩
theorem r_nil {R : List V → Hp → Prop} (h : R [] H) : tNil σ H R := h
theorem r_cons {te : TE} {t : TA} {R : List V → Hp → Prop} (h : te σ H fun x H1 => t σ H1 fun xs H2 => R (x :: xs) H2) : tCons te t σ H R := h
theorem r_drop {te : TE} (h : te σ H fun _ H1 => n σ H1) : tDrop te ⟨n, r, b, c⟩ σ H := h
theorem r_ret {te : TE} (h : te σ H r) : tRet te ⟨n, r, b, c⟩ σ H := h
theorem r_retN (h : r .non H) : tRetN ⟨n, r, b, c⟩ σ H := h
theorem r_next (h : n σ H) : tNext ⟨n, r, b, c⟩ σ H := h
theorem r_brk (h : b σ H) : tBreak ⟨n, r, b, c⟩ σ H := h
theorem r_if {e : TT} {t u : TS} (h : e σ H fun k H1 => if k = true then t ⟨n, r, b, c⟩ σ H1 else u ⟨n, r, b, c⟩ σ H1) : tIfS e t u ⟨n, r, b, c⟩ σ H := h
theorem r_ifE {c : TT} {ta tb : TE} (h : c σ H fun b H1 => if b = true then ta σ H1 Q else tb σ H1 Q) : tIf c ta tb σ H Q := h
theorem r_test {te : TE} {R : Bool → Hp → Prop} (h : te σ H fun x H' => ∃ k, x = .bl k ∧ R k H') : tTest te σ H R := h
theorem r_B {te : TE} {R : Bool → Hp → Prop} (h : te σ H fun x H' => ∃ k, x = .bl k ∧ R k H') : tB te σ H R := h
theorem r_bl {b : Bool} {R : Bool → Prop} (h : R b) : ∃ k, V.bl b = .bl k ∧ R k := ⟨b, rfl, h⟩
theorem r_and {t u : TT} {R : Bool → Hp → Prop} (h : t σ H fun c H1 => if c = true then u σ H1 R else R false H1) : tAnd t u σ H R := h
theorem r_or {t u : TT} {R : Bool → Hp → Prop} (h : t σ H fun c H1 => if c = true then R true H1 else u σ H1 R) : tOr t u σ H R := h
theorem r_not {t : TT} {R : Bool → Hp → Prop} (h : t σ H fun c H1 => R (!c) H1) : tNot t σ H R := h
theorem r_andV {ta tb : TE} (h : ta σ H fun x H1 => ∃ c, x = .bl c ∧ if c = true then tb σ H1 Q else Q (.bl false) H1) : tAndV ta tb σ H Q := h
theorem r_orV {ta tb : TE} (h : ta σ H fun x H1 => ∃ c, x = .bl c ∧ if c = true then Q (.bl true) H1 else tb σ H1 Q) : tOrV ta tb σ H Q := h
theorem r_notV {ta : TE} (h : ta σ H fun x H1 => ∃ c, x = .bl c ∧ Q (.bl (!c)) H1) : tNotV ta σ H Q := h
theorem r_chain {r r' : R2} {ta tb tc : TE} (h : ta σ H fun x H1 => tb σ H1 fun y H2 => r x y H2 fun z H3 => ∃ k, z = .bl k ∧ (if k = true then tc σ H3 fun w' H4 => r' y w' H4 Q else Q (.bl false) H3)) : tChain r r' ta tb tc σ H Q := h
theorem r_tup {t : TA} (h : t σ H fun xs H1 => xs.length ≤ sizeLine ∧ ∀ p, H1 p = none → Q (.ref p) (upd H1 p (.tup xs))) : tTup t σ H Q := h
theorem r_lst {t : TA} (h : t σ H fun xs H1 => xs.length ≤ sizeLine ∧ ∀ p, H1 p = none → Q (.ref p) (upd H1 p (.lst xs))) : tLst t σ H Q := h
theorem r_call {sp : Sp} {dvs : List V} {E : XK} {t : TA} (h : t σ H fun vs H1 => sp (vs ++ dvs) H1 Q E) : tCall sp dvs E t σ H Q := h
theorem r_CB {r : List V → Hp → VK → Prop} {t : TA} (h : t σ H fun vs H1 => r vs H1 Q) : tCB r t σ H Q := h
theorem r_ixL {p : Addr} {xs : List V} {i : Int} {v : V} (hs : SqL K H p xs) (e : atI xs i = some v) (h : Q v H) : rIxL K (.ref p) (.int i) H Q := ⟨p, xs, i, v, rfl, rfl, hs, e, h⟩
theorem r_ixT {p : Addr} {xs : List V} {i : Int} {v : V} (hs : SqT K H p xs) (e : atI xs i = some v) (h : Q v H) : rIxT K (.ref p) (.int i) H Q := ⟨p, xs, i, v, rfl, rfl, hs, e, h⟩
theorem r_ite {p : Prop} [Decidable p] {A B : Prop} (h1 : p → A) (h2 : ¬ p → B) : if decide p = true then A else B := by
  by_cases c : p
  · rw [if_pos (decide_eq_true c)]
    exact h1 c
  · rw [if_neg (by simp [c])]
    exact h2 c
theorem r_iten {p : Prop} [Decidable p] {A B : Prop} (h1 : ¬ p → A) (h2 : p → B) : if (!decide p) = true then A else B := by
  by_cases c : p
  · rw [if_neg (by simp [c])]
    exact h2 c
  · rw [if_pos (by simp [c])]
    exact h1 c
theorem r_itep {p : Prop} [Decidable p] {A B : Prop} (c : p) (h : A) : if decide p = true then A else B := by
  rw [if_pos (decide_eq_true c)]
  exact h
theorem r_iteN {p : Prop} [Decidable p] {A B : Prop} (c : ¬ p) (h : B) : if decide p = true then A else B := by
  rw [if_neg (by simp [c])]
  exact h
theorem r_iteF {A B : Prop} (h : B) : if false = true then A else B := by
  rw [if_neg Bool.false_ne_true]
  exact h
theorem r_iteT {A B : Prop} (h : A) : if true = true then A else B := by
  rw [if_pos rfl]
  exact h
theorem r_iteNT {A B : Prop} (h : B) : if (!true) = true then A else B := by
  rw [if_neg (by decide)]
  exact h
theorem r_iteNF {A B : Prop} (h : A) : if (!false) = true then A else B := by
  rw [if_pos (by decide)]
  exact h
theorem r_no {p : Prop} [Decidable p] {A B : Prop} (c : p) (h : B) : if (!decide p) = true then A else B := by
  rw [if_neg (by simp [c])]
  exact h
/-- a for over a written range(m) -/
theorem r_forN {v : Int} {g : TG} {tb : TS} (m : Nat) (e : v = (m : Int)) (hn : m < 2 ^ 62) (Pv : Nat → St → Hp → Prop) (h0 : Pv 0 σ H)
    (hs : ∀ (i : Nat) σ H, i < m → Pv i σ H → g (.int (i : Int)) σ H fun σ2 H2 => tb ⟨Pv (i + 1), r, n, Pv (i + 1)⟩ σ2 H2) (hd : ∀ σ H, Pv m σ H → n σ H) : tFor (iRng1 (tCons (tC (.int v)) tNil)) g tb ⟨n, r, b, c⟩ σ H := by
  subst e
  refine ⟨(m : Int), rfl, by omega, by omega, for_range Pv h0 (fun i σ H hi p => ?_) hd⟩
  rw [Int.zero_add]
  exact hs i σ H (by omega) p
/-- a for over range(v), v in a slot -/
theorem r_forV {v : Int} {k : Nat} {g : TG} {tb : TS} (e : σ[k]? = some (some (.int v))) (h1 : -(2 ^ 62) ≤ v) (h2 : v < 2 ^ 62) (Pv : Nat → St → Hp → Prop) (h0 : Pv 0 σ H)
    (hs : ∀ (i : Nat) σ H, (i : Int) < v → Pv i σ H → g (.int (i : Int)) σ H fun σ2 H2 => tb ⟨Pv (i + 1), r, n, Pv (i + 1)⟩ σ2 H2) (hd : ∀ σ H, Pv v.toNat σ H → n σ H) : tFor (iRng1 (tCons (tVar k) tNil)) g tb ⟨n, r, b, c⟩ σ H := by
  refine ⟨_, e, v, rfl, h1, h2, for_range Pv h0 (fun i σ H hi p => ?_) hd⟩
  rw [Int.zero_add]
  exact hs i σ H (by omega) p
/-- a for over range(e), the turns behind its reading -/
theorem r_for {wi : TI} {g : TG} {tb : TS} (h : wi σ H fun J H1 => ∃ W : Nat → Nat → St → Hp → Prop, (∃ m, W 0 m σ H1) ∧ ∀ i m σ H, W i m σ H →
    (J.stop i H ∧ n σ H) ∨ (J.go i H ∧ ∃ N : St → Hp → Prop, (∀ σ' H', N σ' H' → ∃ m', m' < m ∧ W (i + 1) m' σ' H') ∧ ∀ x H', J.yld i H x H' → g x σ H' fun σ2 H2 => tb ⟨N, r, n, N⟩ σ2 H2)) : tFor wi g tb ⟨n, r, b, c⟩ σ H := h
theorem r_rng1 {ta : TA} {R : It → Hp → Prop} (h : ta σ H fun vs H1 => ∃ j : Int, vs = [.int j] ∧ -(2 ^ 62) ≤ j ∧ j < 2 ^ 62 ∧ R (Itr 0 j.toNat) H1) : iRng1 ta σ H R := h
/-- .. the turns -/
theorem r_turns {j : Int} {g : TG} {tb : TS} (h1 : -(2 ^ 62) ≤ j) (h2 : j < 2 ^ 62) (Pv : Nat → St → Hp → Prop) (h0 : Pv 0 σ H)
    (hs : ∀ (i : Nat) σ H, (i : Int) < j → Pv i σ H → g (.int (i : Int)) σ H fun σ2 H2 => tb ⟨Pv (i + 1), r, n, Pv (i + 1)⟩ σ2 H2) (hd : ∀ σ H, Pv j.toNat σ H → n σ H) :
    -(2 ^ 62) ≤ j ∧ j < 2 ^ 62 ∧ ∃ W : Nat → Nat → St → Hp → Prop, (∃ m, W 0 m σ H) ∧ ∀ i m σ H, W i m σ H →
    ((Itr 0 j.toNat).stop i H ∧ n σ H) ∨ ((Itr 0 j.toNat).go i H ∧ ∃ N : St → Hp → Prop, (∀ σ' H', N σ' H' → ∃ m', m' < m ∧ W (i + 1) m' σ' H') ∧ ∀ x H', (Itr 0 j.toNat).yld i H x H' → g x σ H' fun σ2 H2 => tb ⟨N, r, n, N⟩ σ2 H2) := by
  refine ⟨h1, h2, for_range (D := ⟨n, r, fun _ _ => False, fun _ _ => False⟩) Pv h0 (fun i σ H hi p => ?_) hd⟩
  rw [Int.zero_add]
  exact hs i σ H (by omega) p
theorem r_while {e : TT} {tb : TS} (W : Nat → St → Hp → Prop) (m : Nat) (h0 : W m σ H)
    (hs : ∀ m σ H, W m σ H → e σ H fun k H1 => if k = true then ∃ N : St → Hp → Prop, (∀ σ' H', N σ' H' → ∃ m', m' < m ∧ W m' σ' H') ∧ tb ⟨N, r, n, N⟩ σ H1 else n σ H1) : tWhile e tb ⟨n, r, b, c⟩ σ H := ⟨W, ⟨m, h0⟩, hs⟩
theorem r_turn {tb : TS} {W : Nat → St → Hp → Prop} {m : Nat} (h : tb ⟨fun σ' H' => ∃ m', m' < m ∧ W m' σ' H', r, n, fun σ' H' => ∃ m', m' < m ∧ W m' σ' H'⟩ σ H) :
    ∃ N : St → Hp → Prop, (∀ σ' H', N σ' H' → ∃ m', m' < m ∧ W m' σ' H') ∧ tb ⟨N, r, n, N⟩ σ H := ⟨_, fun _ _ h => h, h⟩
end
/-! ### promises by the number of arguments -/
def sp1 (f : V → Hp → VK → XK → Prop) : Sp := fun vs H Q E => ∃ a, vs = [a] ∧ f a H Q E
def sp2 (f : V → V → Hp → VK → XK → Prop) : Sp := fun vs H Q E => ∃ a b, vs = [a, b] ∧ f a b H Q E
def sp3 (f : V → V → V → Hp → VK → XK → Prop) : Sp := fun vs H Q E => ∃ a b c, vs = [a, b, c] ∧ f a b c H Q E
def sp4 (f : V → V → V → V → Hp → VK → XK → Prop) : Sp := fun vs H Q E => ∃ a b c d, vs = [a, b, c, d] ∧ f a b c d H Q E
def sp5 (f : V → V → V → V → V → Hp → VK → XK → Prop) : Sp := fun vs H Q E => ∃ a b c d e, vs = [a, b, c, d, e] ∧ f a b c d e H Q E
def sp6 (f : V → V → V → V → V → V → Hp → VK → XK → Prop) : Sp := fun vs H Q E => ∃ a b c d e g, vs = [a, b, c, d, e, g] ∧ f a b c d e g H Q E
theorem len5 {f} (vs : List V) (H : Hp) (Q : VK) (E : XK) (h : sp5 f vs H Q E) : vs.length = 5 := by
  obtain ⟨_, _, _, _, _, rfl, _⟩ := h
  rfl
theorem len6 {f} (vs : List V) (H : Hp) (Q : VK) (E : XK) (h : sp6 f vs H Q E) : vs.length = 6 := by
  obtain ⟨_, _, _, _, _, _, rfl, _⟩ := h
  rfl
theorem len1 {f} (vs : List V) (H : Hp) (Q : VK) (E : XK) (h : sp1 f vs H Q E) : vs.length = 1 := by
  obtain ⟨_, rfl, _⟩ := h
  rfl
theorem len2 {f} (vs : List V) (H : Hp) (Q : VK) (E : XK) (h : sp2 f vs H Q E) : vs.length = 2 := by
  obtain ⟨_, _, rfl, _⟩ := h
  rfl
theorem len3 {f} (vs : List V) (H : Hp) (Q : VK) (E : XK) (h : sp3 f vs H Q E) : vs.length = 3 := by
  obtain ⟨_, _, _, rfl, _⟩ := h
  rfl
theorem len4 {f} (vs : List V) (H : Hp) (Q : VK) (E : XK) (h : sp4 f vs H Q E) : vs.length = 4 := by
  obtain ⟨_, _, _, _, rfl, _⟩ := h
  rfl
/-- a def's promise from its body -/
theorem calD {P : Program} {w : World} {K : PySem.W.Frag} {mg : Str → Option Value} {base : Heap} {x qual : Str} {params : Arguments} {body : List Stmt} {scope : Scope} {f : Addr} {fd : FuncData} {N ps : List Str} {k : Nat} {sp : Sp}
    (F : FunD K x qual params body scope [] [] f fd) (m : mg x = some (.ref f)) (S : FnScope N ps scope)
    (hb : ∀ (kV doc pm : Value) (an : Option Addr) (cdv ct : Value) (us : List Value), us.length = ps.length → bindArgs (PySem.W.fnOf x qual params body scope .none kV doc pm an cdv ct) ⟨us, []⟩ = pure (ps.zip us))
    (len : ∀ vs H Q E, sp vs H Q E → vs.length = ps.length)
    (hbody : ∀ (cdv : Value) (A : Around) (outer : List Env) (s : Shared) (H : Hp) (vs : List V) (Q : VK) (E : XK), Room k (A.deeper (envOfC qual scope s.heap.objs.size f cdv)) → sp vs H Q E →
      ∃ t, PSs (cxOf CX0 P w K mg base N qual scope f cdv A outer s H E).nox body t ∧ t { nx := fun _ H' => Q .non H', rt := Q } (start N vs) H) : Cal P w K mg base (k + 1) x sp [] :=
  ⟨f, fd, ps, [], F.ok S len fun cdv A outer s H vs Q E hr h => by
    obtain ⟨t, h1, h2⟩ := hbody cdv A outer s H vs Q E hr h
    exact ⟨t, h1.nox, h2⟩, m, F.kp, F.bindsN hb, .nil⟩
theorem fnD {P : Program} {w : World} {K : PySem.W.Frag} {mg : Str → Option Value} {base : Heap} {x qual : Str} {params : Arguments} {body : List Stmt} {scope : Scope} {f : Addr} {fd : FuncData} {N ps : List Str} {k : Nat} {sp : Sp}
    (F : FunD K x qual params body scope [] [] f fd) (S : FnScope N ps scope) (len : ∀ vs H Q E, sp vs H Q E → vs.length = ps.length)
    (hbody : ∀ (cdv : Value) (A : Around) (outer : List Env) (s : Shared) (H : Hp) (vs : List V) (Q : VK) (E : XK), Room k (A.deeper (envOfC qual scope s.heap.objs.size f cdv)) → sp vs H Q E →
      ∃ t, PSs (cxOf CX0 P w K mg base N qual scope f cdv A outer s H E).nox body t ∧ t { nx := fun _ H' => Q .non H', rt := Q } (start N vs) H) : FnOk P w K mg base CX0 (k + 1) f fd ps sp :=
  F.ok S len fun cdv A outer s H vs Q E hr h => by
    obtain ⟨t, h1, h2⟩ := hbody cdv A outer s H vs Q E hr h
    exact ⟨t, h1.nox, h2⟩
theorem conI {K : PySem.W.Frag} {h : Heap} {mg : Str → Option Value} {x : Str} {i : Int} (X : K.In h) (G : h.Ns mainGlobals mg) (c : (He.Fa.int x i).ok K = true) : ∃ u, mg x = some u ∧ RelV (.int i) u := by
  obtain ⟨t, e⟩ := He.int_ok X G c
  exact ⟨_, e, t, rfl⟩
theorem conS {K : PySem.W.Frag} {h : Heap} {mg : Str → Option Value} {x z : Str} (X : K.In h) (G : h.Ns mainGlobals mg) (c : (He.Fa.str x z).ok K = true) : ∃ u, mg x = some u ∧ RelV (.str z) u := by
  obtain ⟨t, e⟩ := He.str_ok X G c
  exact ⟨_, e, t, rfl⟩

/-! ### more readings -/
section
variable {σ : St} {H : Hp} {n b c : St → Hp → Prop} {r : VK} {Q : VK}
theorem r_cut {t u : TS} (Mid : St → Hp → Prop) (h1 : t ⟨Mid, r, b, c⟩ σ H) (h2 : ∀ σ' H', Mid σ' H' → u ⟨n, r, b, c⟩ σ' H') : tCut t u ⟨n, r, b, c⟩ σ H := ⟨Mid, h1, h2⟩
end
section
variable {σ : St} {H : Hp} {Q : VK} {K : PySem.W.Frag}
theorem r_yes {R : Bool → Hp → Prop} (h : R true H) : tYes σ H R := h
theorem r_isi {x : V} {c d : String} {b : Bool} (t : TyX K H x (.type d)) (e : kitB d c = some b) (h : Q (.bl b) H) : rIsi K [x, .ty c] H Q := ⟨x, .ty c, .type d, .type c, b, rfl, .ty c, t, kit_ty e, h⟩
theorem r_neD {x y : V} {d e : PyData} (h1 : Dp K H x d) (h2 : Dp K H y e) (s1 : SeqAt.shaped d = true) (s2 : SeqAt.shaped e = true) (h : Q (.bl (!PyData.eqv d e)) H) : rNeD K x y H Q := ⟨d, e, h1, h2, s1, s2, h⟩
theorem r_eqD {x y : V} {d e : PyData} (h1 : Dp K H x d) (h2 : Dp K H y e) (s1 : SeqAt.shaped d = true) (s2 : SeqAt.shaped e = true) (h : Q (.bl (PyData.eqv d e)) H) : rEqD K x y H Q := ⟨d, e, h1, h2, s1, s2, h⟩
theorem eqv_same {d : PyData} (s : SeqAt.shaped d = true) : PyData.eqv d d = true := SeqAt.eqv_refl d (Bool.and_eq_true_iff.mp s).1
/-- the same data on both sides -/
theorem r_neDs {x y : V} {d : PyData} (h1 : Dp K H x d) (h2 : Dp K H y d) (s : SeqAt.shaped d = true) (h : Q (.bl false) H) : rNeD K x y H Q := r_neD h1 h2 s s (by rw [eqv_same s]; exact h)
theorem r_eqDs {x y : V} {d : PyData} (h1 : Dp K H x d) (h2 : Dp K H y d) (s : SeqAt.shaped d = true) (h : Q (.bl true) H) : rEqD K x y H Q := r_eqD h1 h2 s s (by rw [eqv_same s]; exact h)
theorem r_rfl {v : V} {B : Prop} (h : B) : v = v ∧ B := ⟨rfl, h⟩
theorem r_gtup {p : Addr} {xs : List V} {n : Nat} {t : TGs} {R : St → Hp → Prop} (hs : SqT K H p xs) (hl : xs.length = n) (h : t xs σ H R) : gTup K n t (.ref p) σ H R := ⟨p, xs, rfl, hs, hl, h⟩
theorem r_gcons {t : TG} {u : TGs} {v : V} {vs : List V} {R : St → Hp → Prop} (h : t v σ H fun σ' H' => u vs σ' H' R) : gCons t u (v :: vs) σ H R := ⟨v, vs, rfl, h⟩
theorem r_gnil {R : St → Hp → Prop} (h : R σ H) : gNil [] σ H R := ⟨rfl, h⟩
theorem r_iteC {p : Prop} [Decidable p] {a b : Int} (h : Q (.int (if p then a else b)) H) : if decide p = true then tC (.int a) σ H Q else tC (.int b) σ H Q := by
  by_cases c : p
  · rw [if_pos (decide_eq_true c)]
    rw [if_pos c] at h
    exact h
  · rw [if_neg (by simp [c])]
    rw [if_neg c] at h
    exact h
theorem r_iteJ {p : Prop} [Decidable p] {ta tb : TE} (v : V) (h1 : p → ∀ R : VK, R v H → ta σ H R) (h2 : ¬ p → ∀ R : VK, R v H → tb σ H R) (h : Q v H) : if decide p = true then ta σ H Q else tb σ H Q := by
  by_cases c : p
  · rw [if_pos (decide_eq_true c)]
    exact h1 c Q h
  · rw [if_neg (by simp [c])]
    exact h2 c Q h
theorem r_max2 {p : Addr} {x y : Int} (hs : H p = some (.lst [.int x, .int y])) (h : Q (.int (max x y)) H) : rMax K [.ref p] H Q := by
  refine ⟨p, [x, y], rfl, SqL.of hs, by show 0 < 2; decide, fun m hm hle => ?_⟩
  have h1 := hle x (by simp)
  have h2 := hle y (by simp)
  have e : m = max x y := by
    rcases List.mem_cons.mp hm with e | e
    · omega
    · rcases List.mem_cons.mp e with e | e
      · omega
      · cases e
  rw [e]
  exact h
theorem r_lam1 {x : V} {R : V → Prop} (h : R x) : ∃ i, [x] = [i] ∧ R i := ⟨x, rfl, h⟩
theorem r_abs {x : Int} {R : Int → Prop} (h : R x) : ∃ i, [V.int x] = [V.int i] ∧ R i := ⟨x, rfl, h⟩
theorem r_int1 {x : Int} {R : Int → Prop} {B : Prop} (h : R x) : (∃ i, [V.int x] = [V.int i] ∧ R i) ∨ B := .inl ⟨x, rfl, h⟩
theorem r_bm {T : String} {r : V → List V → Hp → VK → Prop} {to : TE} {t : TA} (h : to σ H fun x H1 => tyV K T x H1 ∧ t σ H1 fun xs H2 => r x xs H2 Q) : tBM K T r to t σ H Q := h
theorem r_bm0 {T : String} {r : V → List V → Hp → VK → Prop} {to : TE} (h : to σ H fun x H1 => tyV K T x H1 ∧ r x [] H1 Q) : tBM0 K T r to σ H Q := h
theorem tyL {p : Addr} {xs : List V} (h : H p = some (.lst xs)) : tyV K "list" (.ref p) H := Or.inl ⟨rfl, _, SqL.of h⟩
theorem r_app {p : Addr} {xs : List V} {y : V} (h : H p = some (.lst xs)) (hl : xs.length < sizeLine) (q : Q .non (upd H p (.lst (xs ++ [y])))) : rAppend (.ref p) [y] H Q := ⟨p, xs, y, rfl, rfl, h, hl, q⟩
theorem r_sub {to ti : TE} {t : TSet} {v : V} {R : St → Hp → Prop} (h : to σ H fun o H1 => ti σ H1 fun i H2 => t o i v H2 fun H3 => R σ H3) : gSub to ti t v σ H R := h
theorem r_setL {p : Addr} {xs : List V} {k : Int} {j : Nat} {v : V} {R : Hp → Prop} (h : H p = some (.lst xs)) (e : ixN xs.length k = some j) (q : R (upd H p (.lst (xs.set j v)))) : rSetL (.ref p) (.int k) v H R := ⟨p, xs, k, j, rfl, rfl, h, e, q⟩
theorem r_lcR {ta : TA} {g : TG} {tt : TT} {te : TE} {vs : List Nat} (n : Nat) (hn : n < 2 ^ 62)
    (h : ∀ D, H D = none → ∃ W : Nat → Nat → Hp → Prop, (∃ m, W 0 m (upd H D (.lst []))) ∧ ∀ i m H, W i m H →
      ((Itr 0 n).stop i H ∧ Q (.ref D) H) ∨ ((Itr 0 n).go i H ∧ ∃ Nx : Hp → Prop, (∀ H', Nx H' → ∃ m', m' < m ∧ W (i + 1) m' H') ∧ ∀ x H', (Itr 0 n).yld i H x H' → g x (wipe σ vs) H' fun σ2 H2 => wipe σ2 vs = wipe σ vs ∧ tt σ2 H2 fun b H3 =>
        if b = true then te σ2 H3 fun y H4 => ∃ acc, H4 D = some (.lst acc) ∧ acc.length < sizeLine ∧ Nx (upd H4 D (.lst (acc ++ [y]))) else Nx H3))
    (he : ∀ R : List V → Hp → Prop, R [.int (n : Int)] H → ta σ H R) : tLc (iRng1 ta) g tt te vs σ H Q := by
  refine he _ ⟨(n : Int), rfl, by omega, by omega, ?_⟩
  have e : ((n : Int)).toNat = n := by omega
  rw [e]
  exact h
theorem same_upd {H : Hp} {p : Addr} (h : H p = none) (o : HO) : Same H (upd H p o) := fun b u q => by
  rw [upd_ne (ne_of_none q h)]
  exact q
theorem seq_upd {p b : Addr} {xs : List V} {o : HO} (h : SqL K H b xs) (hn : b ≠ p) : SqL K (upd H p o) b xs := by
  rcases h with (h | ⟨u, h⟩) | h
  · exact .inl (.inl ((upd_ne hn).trans h))
  · exact .inl (.inr ⟨u, (upd_ne hn).trans h⟩)
  · exact .inr h
theorem atI_ints {ns : List Int} {k : Int} (h0 : 0 ≤ k) (h1 : k < (ns.length : Int)) : ∃ v, v ∈ ns ∧ atI (ns.map V.int) k = some (.int v) := by
  have hk : k.toNat < ns.length := by omega
  have ek : k = ((k.toNat : Nat) : Int) := by omega
  have q : atI (ns.map V.int) ((k.toNat : Nat) : Int) = some (.int ns[k.toNat]) := atI_nat (by rw [List.getElem?_map, List.getElem?_eq_getElem hk] <;> rfl)
  rw [← ek] at q
  exact ⟨ns[k.toNat], List.getElem_mem hk, q⟩
end

/-! ### what the program's top leaves, looked at: its defs by their addresses, facts, written data; the statics too -/
abbrev Frg := PySem.W.Frag
/-- the getter of a property of a class -/
def prAd (C f : Str) (K : Frg) : Addr := match PySem.W.recIn K (He.ma K (He.ga K C) f) "property" with
  | some (.ref g :: _) => g
  | _ => 0
def glAd (x : Str) (K : Frg) : Addr := He.ga K x
def meAd (C m : Str) (K : Frg) : Addr := He.ma K (He.ga K C) m
structure DefM where
  ad : Frg → Addr
  nm : Str
  ql : Str
  pa : Arguments
  bo : List Stmt
  sc : Scope
  df : List He.Dv := []
def seeM (K : Frg) (d : DefM) : He.FnW := match K.lookup (d.ad K) with
  | some ⟨_, _, .func u, _⟩ => some (u.name, u.qualname, u.params, u.body, u.scope, u.globals, u.closure, u.builtins)
  | _ => none
def dueM (d : DefM) : He.FnW := some (d.nm, d.ql, d.pa, .stmts d.bo, d.sc, mainGlobals, [], builtinsNs)
def okM (K : Frg) (d : DefM) : Bool := PySem.W.keepIn K (.ref (d.ad K)) && (match K.lookup (d.ad K) with
  | some ⟨_, _, .func u, _⟩ => PySem.W.codeIn K u.code d.ql && He.dflB K u.defaults (d.df.map (He.Dv.v K))
  | _ => false)
theorem both {a b : Bool} (h : (a && b) = true) : a = true ∧ b = true := Bool.and_eq_true_iff.mp h
theorem funM {K : Frg} {d : DefM} (e : seeM K d = dueM d) (c : okM K d = true) : ∃ fd, FunD K d.nm d.ql d.pa d.bo d.sc (d.df.map (He.Dv.v K)) [] (d.ad K) fd := by
  have kp := (both c).1
  have c2 := (both c).2
  unfold seeM dueM at e
  split at c2
  · rename_i x1 x2 u x3 hL
    rw [hL] at e
    obtain ⟨n1, n2, n3, n4, n5, n6, n7, n8, n9, n10, n11, n12, n13, n14, n15⟩ := u
    simp only [Option.some.injEq, Prod.mk.injEq] at e
    obtain ⟨h1, h2, h3, h4, h5, h6, h7, h8⟩ := e
    subst h1 h2 h3 h4 h5 h6 h7 h8
    have k := both c2
    exact ⟨_, ⟨x1, x2, n8, n9, n10, n11, n12, n13, n14, x3, rfl, hL, k.1, He.dflB_ok k.2, .inl rfl⟩, kp⟩
  · cases c2
/-- written data: none, truths, integers, texts, lists and tuples of them -/
def datB (K : Frg) : Nat → Value → PyData → Bool
  | 0, _, _ => false
  | n + 1, u, d => match u, d with
    | .none, .none => true
    | .bool b, .bool c => b == c
    | .int i _, .int j => decide (i = j)
    | .str x _, .str y => decide (x = y)
    | .ref a, .tuple ds => (match K.lookup a with
      | some ⟨.type c, _, .seq its _, _⟩ => decide (c = "tuple") && (decide (its.size ≤ sizeLine) && datAll (fun u d => datB K n u d) its.toList ds)
      | _ => false)
    | _, _ => false
where datAll (f : Value → PyData → Bool) : List Value → List PyData → Bool
  | [], [] => true
  | u :: us, d :: ds => f u d && datAll f us ds
  | _, _ => false
theorem datAll_ok {K : Frg} {f : Value → PyData → Bool} (hf : ∀ u d, f u d = true → ∃ x, RelV x u ∧ ∀ H, Dp K H x d) : ∀ (us : List Value) (ds : List PyData), datB.datAll f us ds = true → ∃ xs, Vals xs us ∧ ∀ H, DpAll K H xs ds
  | [], [], _ => ⟨[], .nil, fun _ => .nil⟩
  | u :: us, d :: ds, h => by
    unfold datB.datAll at h
    obtain ⟨x, r, k⟩ := hf u d (both h).1
    obtain ⟨xs, rs, ks⟩ := datAll_ok hf us ds (both h).2
    exact ⟨x :: xs, .cons r rs, fun H => .cons (k H) (ks H)⟩
  | [], _ :: _, h => by cases h
  | _ :: _, [], h => by cases h
theorem datB_ok {K : Frg} : ∀ (n : Nat) (u : Value) (d : PyData), datB K n u d = true → ∃ x, RelV x u ∧ ∀ H, Dp K H x d
  | 0, _, _, h => by cases h
  | n + 1, u, d, h => by
    unfold datB at h
    match u, d, h with
    | .none, .none, _ => exact ⟨.non, rfl, fun _ => .non⟩
    | .bool b, .bool c, h =>
      have e : b = c := eq_of_beq h
      subst e
      exact ⟨.bl b, rfl, fun _ => .bl b⟩
    | .int i t, .int j, h =>
      have e : i = j := of_decide_eq_true h
      subst e
      exact ⟨.int i, ⟨t, rfl⟩, fun _ => .int i⟩
    | .str x t, .str y, h =>
      have e : x = y := of_decide_eq_true h
      subst e
      exact ⟨.str x, ⟨t, rfl⟩, fun _ => .str x⟩
    | .ref a, .tuple ds, h =>
      have h' : (match K.lookup a with
        | some ⟨.type c, _, .seq its _, _⟩ => decide (c = "tuple") && (decide (its.size ≤ sizeLine) && datB.datAll (fun u d => datB K n u d) its.toList ds)
        | _ => false) = true := h
      split at h'
      · rename_i c x2 its m x3 hL
        have h1 := (both h').1
        have h2 := (both (both h').2).1
        obtain ⟨xs, rs, ks⟩ := datAll_ok (datB_ok n) its.toList ds (both (both h').2).2
        exact ⟨.ref a, rfl, fun H => .tup (.inr ⟨_, its, m, hL, congrArg Value.type (of_decide_eq_true h1), rfl, of_decide_eq_true h2, rs⟩) (ks H)⟩
      · cases h'
/-- a name of the module that stands for such data -/
def conB (K : Frg) (x : Str) (d : PyData) : Bool := match PySem.W.nsIn K mainGlobals x with
  | some (some u) => datB K 8 u d
  | _ => false
theorem conM {K : Frg} {h : Heap} {mg : Str → Option Value} {x : Str} {d : PyData} (X : K.In h) (G : h.Ns mainGlobals mg) (c : conB K x d = true) : ∃ v u, mg x = some u ∧ RelV v u ∧ ∀ H, Dp K H v d := by
  unfold conB at c
  split at c
  · rename_i u hL
    obtain ⟨v, r, k⟩ := datB_ok 8 u d c
    exact ⟨v, u, PySem.W.mg_of X G hL, r, k⟩
  · cases c
/-- a property of a class -/
def prB (K : Frg) (C f : Str) : Bool := He.eqO (PySem.W.findIn K (.ref (He.ga K C)) f) (some (some (.ref (He.ma K (He.ga K C) f)))) &&
  (He.eqO (PySem.W.specialIn K (.ref (He.ma K (He.ga K C) f)) "__get__") (some (some (.builtin "property.__get__"))) && (decide (PySem.W.takesIn K (.ref (He.ma K (He.ga K C) f)) = some true) &&
  (match PySem.W.recIn K (He.ma K (He.ga K C) f) "property" with
    | some (.ref _ :: _) => true
    | _ => false)))
theorem prM {K : Frg} {C f : Str} (h : prB K C f = true) : PropOf K (He.ga K C) f (He.ma K (He.ga K C) f) (prAd C f K) := by
  obtain ⟨h1, h⟩ := both h
  obtain ⟨h2, h⟩ := both h
  obtain ⟨h3, h4⟩ := both h
  refine ⟨He.eqO_ok h1, He.eqO_ok h2, of_decide_eq_true h3, ?_⟩
  unfold prAd
  split at h4
  · rename_i g r hL
    rw [hL]
    exact ⟨r, rfl⟩
  · cases h4
/-- no limit of digits is set -/
def digB (K : Frg) : Bool := PySem.W.nsOkIn K cStatics && He.eqO (PySem.W.nsIn K cStatics "sys.int_max_str_digits") (some none)
def DigK (K : Frg) : Prop := PySem.W.nsOkIn K cStatics = true ∧ PySem.W.nsIn K cStatics "sys.int_max_str_digits" = some none
theorem digK_ok {K : Frg} (h : digB K = true) : DigK K := ⟨(both h).1, He.eqO_ok (both h).2⟩
/-! the Hook -/
abbrev AlM : Type := Bool × List He.FnW
def frM (n : Nat) (g : Addr → Option Obj) : Frg := He.frG g (cStatics :: He.asD g n)
def obsM (fa : List He.Fa) (ex : Frg → Bool) (fn : List DefM) (K : Frg) : AlM := ((fa.all fun x => x.ok K) && (ex K && fn.all fun d => okM K d), fn.map fun d => seeM K d)
def valM (fn : List DefM) : AlM := (true, fn.map dueM)
def SaysM (fa : List He.Fa) (ex : Frg → Bool) (fn : List DefM) (K : Frg) : Prop := obsM fa ex fn K = valM fn
def hookM (n : Nat) (fa : List He.Fa) (ex : Frg → Bool) (fn : List DefM) : PySem.W.Hook where
  α := AlM
  obs := fun s => obsM fa ex fn (frM n s.heap.get?)
  val := fun _ => valM fn
  says := fun _ h => ∃ K : Frg, K.In h ∧ SaysM fa ex fn K
  of := fun _ _ e => ⟨_, He.frG_in, e⟩
  keeps := fun _ _ _ ⟨K, hK, c⟩ k => ⟨K, PySem.W.Frag.In.keeps hK k, c⟩
theorem obsM_eq {n : Nat} {fa : List He.Fa} {ex : Frg → Bool} {fn : List DefM} {g : Addr → Option Obj} {s : Shared} (h : ∀ a, g a = s.heap.get? a) : obsM fa ex fn (frM n g) = (hookM n fa ex fn).obs s := by
  have e : g = s.heap.get? := funext h
  subst e
  rfl
section
variable {fa : List He.Fa} {ex : Frg → Bool} {fn : List DefM} {K : Frg}
theorem SaysM.fact (c : SaysM fa ex fn K) (i : Nat) {x : He.Fa} (h : fa[i]? = some x) : x.ok K = true :=
  List.all_eq_true.mp (both (congrArg Prod.fst c : ((fa.all fun x => x.ok K) && (ex K && fn.all fun d => okM K d)) = true)).1 x (List.mem_of_getElem? h)
theorem SaysM.more (c : SaysM fa ex fn K) : ex K = true := (both (both (congrArg Prod.fst c : ((fa.all fun x => x.ok K) && (ex K && fn.all fun d => okM K d)) = true)).2).1
theorem SaysM.def_ (c : SaysM fa ex fn K) (i : Nat) {d : DefM} (h : fn[i]? = some d) : ∃ fd, FunD K d.nm d.ql d.pa d.bo d.sc (d.df.map (He.Dv.v K)) [] (d.ad K) fd := by
  have c2 := (both (both (congrArg Prod.fst c : ((fa.all fun x => x.ok K) && (ex K && fn.all fun d => okM K d)) = true)).2).2
  have e2 : (fn.map fun d => seeM K d)[i]? = (fn.map dueM)[i]? := congrArg (fun z : AlM => z.2[i]?) c
  simp only [List.getElem?_map, h, Option.map_some, Option.some.injEq] at e2
  exact funM e2 (List.all_eq_true.mp c2 d (List.mem_of_getElem? h))
end

/-! ### a dict that the module's top writes: keys integers and texts -/
section
open PySem PySem.Spec PyProof.Rows L2
def TabAt (K : PySem.W.Frag) (w : World) (a : Addr) (kvs : List (Key × V)) : Prop := (a == sysModules) = false ∧ ∃ vs : List (Key × Value), KV kvs vs ∧ ∀ (P : Program) (h : Heap), K.In h → h.DictOf (mixKind P w) a vs
def tKGet (K : PySem.W.Frag) (w : World) (td ty tx : TE) : TE := fun σ H Q => td σ H fun x H1 => ∃ a kvs, x = .ref a ∧ TabAt K w a kvs ∧ ty σ H1 fun y H2 => tx σ H2 fun z H3 => ∃ k, y = kV k ∧ Q ((valV kvs k).getD z) H3
def tKIx (K : PySem.W.Frag) (w : World) (td ty : TE) : TE := fun σ H Q => td σ H fun x H1 => ty σ H1 fun y H2 => ∃ a kvs k v, x = .ref a ∧ TabAt K w a kvs ∧ y = kV k ∧ valV kvs k = some v ∧ Q v H2
def tKIn (K : PySem.W.Frag) (w : World) (ty td : TE) : TE := fun σ H Q => ty σ H fun y H1 => td σ H1 fun x H2 => ∃ a kvs k, x = .ref a ∧ TabAt K w a kvs ∧ y = kV k ∧ Q (.bl (valV kvs k).isSome) H2
section
variable {X : Cx} {o e f : Expr} {apos cpos : Pos} {td ty tx : TE}
theorem dictOf_free {P : Program} {w : World} {h : Heap} {a : Addr} {vs : List (Key × Value)} (d : h.DictOf (mixKind P w) a vs) : ∃ ob, h.get? a = some ob ∧ ob.dict = none := by
  obtain ⟨ob, _, _, h1, h2, _⟩ := d
  exact ⟨ob, h1, h2.2.1⟩
theorem pe_kget2 (ho : PE X o td) (he : PE X e ty) (hf : PE X f tx) (m : M2 X o "get" apos e f cpos) : PE X (.Call (.Attribute o "get" apos) [e, f] [] cpos) (tKGet X.K X.w td ty tx) := by
  refine ⟨fun pins s σ H Q I h => ?_⟩
  refine wpAny_Call_method m.base m.few m.line PySem.F.plainAttrs_dict PySem.F.slot_dict_get PySem.F.type_dict_get (thn (ho.run pins s σ H _ I h) fun u s1 ⟨x, H1, I1, rx, a, kvs, ex, ⟨hd, vs, rel, dd⟩, q1⟩ => ?_)
  subst ex
  obtain rfl : u = Value.ref a := rx
  have d1 := dd X.prog s1.heap I1.kIn
  refine ⟨d1.typeIs, fun b q => ?_, ?_⟩
  · cases q
    exact dictOf_free d1
  rw [m.trees]
  refine Calls.callWith_builtin rfl (Calls.evalArgs_plain (Calls.spliced_cons (thn (he.run pins s1 σ H1 _ I1 q1) fun iv s2 ⟨y, H2, I2, ry, q2⟩ =>
    Calls.spliced_cons (thn (hf.run pins s2 σ H2 _ I2 q2) fun fv s3 ⟨z, H3, I3, rz, k, ey, q3⟩ => Calls.spliced_nil ?_))))
  subst ey
  have d3 := dd X.prog s3.heap I3.kIn
  refine call_meetsIn PySem.F.slot_dict_get d3.typeIs PySem.F.entry_dict_get (PySem.F.args_dict_get_3 _ _ _) (meets_dict_get_default (mixKind X.prog X.w) a (kV_is ry) hd fv) ⟨_, d3.mapOf, ⟨_, H3, I3.tok _, ?_, q3⟩⟩
  exact (rel.val k).getD rz
theorem pe_kix (ho : PE X o td) (hi : PE X e ty) (hs : NoSl e) : PE X (.Subscript o e cpos) (tKIx X.K X.w td ty) := by
  refine ⟨fun pins s σ H Q I h => ?_⟩
  refine subD_of PySem.F.slot_dict_getitem.lookup hs (thn (ho.run pins s σ H _ I h) fun u s1 ⟨x, H1, I1, rx, q1⟩ => thn (hi.run pins s1 σ H1 _ I1 q1) fun iv s2 ⟨y, H2, I2, ry, a, kvs, k, v, ex, ⟨hd, vs, rel, dd⟩, ey, l, q2⟩ => ?_)
  subst ex
  subst ey
  obtain rfl : u = Value.ref a := rx
  have d2 := dd X.prog s2.heap I2.kIn
  obtain ⟨w', hw, rw'⟩ := RelO.some_of (v := v) (o := valueAt vs k) (by rw [← l]; exact rel.val k)
  exact ⟨d2.typeIs, wpAny_getItem_of (kV_is ry) d2.mapOf hw ⟨v, H2, I2.tok _, rw', q2⟩⟩
theorem pc_kin (hi : PE X e ty) (ho : PE X o td) : PC X .In e o (tKIn X.K X.w ty td) := by
  refine ⟨fun pins s σ H Q I h => ?_⟩
  refine thn (hi.run pins s σ H _ I h) fun iv s1 ⟨y, H1, I1, ry, q1⟩ => thn (ho.run pins s1 σ H1 _ I1 q1) fun u s2 ⟨x, H2, I2, rx, a, kvs, k, ex, ⟨hd, vs, rel, dd⟩, ey, q2⟩ => ?_
  subst ex
  subst ey
  obtain rfl : u = Value.ref a := rx
  have d2 := dd X.prog s2.heap I2.kIn
  refine wpAny_in_of (kV_is ry) hd d2.mapOf ?_
  rw [← (rel.val k).isSome_eq]
  exact ⟨.bl _, H2, I2.tok _, rfl, q2⟩
end
/-! .. keys tuples of integers and texts -/
def KTk : List (List Key × V) → List (List Key × Addr × Value) → Prop := Paired fun (p : List Key × V) (q : List Key × Addr × Value) => p.1 = q.1 ∧ RelV p.2 q.2.2
theorem KTk.val {kvs : List (List Key × V)} {xs : List (List Key × Addr × Value)} (r : KTk kvs xs) (k : List Key) : RelO (valV kvs k) ((atKey xs k).map (·.2)) := by
  induction r with
  | nil => exact True.intro
  | @cons p q ps qs h t ih =>
    obtain ⟨h1, h2⟩ := h
    by_cases e : p.1 = k
    · have e' : q.1 = k := h1.symm.trans e
      have b : atKey (q :: qs) k = some q.2 := by simp [atKey, List.find?_cons, e']
      rw [valV_pos e, b]; exact h2
    · have e' : ¬ q.1 = k := fun z => e (h1.trans z)
      have b : atKey (q :: qs) k = atKey qs k := by simp [atKey, List.find?_cons, e']
      rw [valV_neg e, b]; exact ih
def TabTAt (K : PySem.W.Frag) (w : World) (a : Addr) (kvs : List (List Key × V)) : Prop := (a == sysModules) = false ∧ ∃ xs : List (List Key × Addr × Value), KTk kvs xs ∧ ∀ (P : Program) (h : Heap), K.In h → h.DictOfH (tupleKind (mixKind P w)) a xs
def tKGetT (K : PySem.W.Frag) (w : World) (td ty tx : TE) : TE := fun σ H Q => td σ H fun x H1 => ∃ a kvs, x = .ref a ∧ TabTAt K w a kvs ∧ ty σ H1 fun y H2 => tx σ H2 fun z H3 => ∃ b ks, y = .ref b ∧ H3 b = some (.tup (ks.map kV)) ∧ Q ((valV kvs ks).getD z) H3
section
variable {X : Cx} {o e f : Expr} {apos cpos : Pos} {td ty tx : TE}
theorem pe_kget2T (hu : X.A.units + 1 < cLine) (ho : PE X o td) (he : PE X e ty) (hf : PE X f tx) (m : M2 X o "get" apos e f cpos) : PE X (.Call (.Attribute o "get" apos) [e, f] [] cpos) (tKGetT X.K X.w td ty tx) := by
  refine ⟨fun pins s σ H Q I h => ?_⟩
  refine wpAny_Call_method m.base m.few m.line PySem.F.plainAttrs_dict PySem.F.slot_dict_get PySem.F.type_dict_get (thn (ho.run pins s σ H _ I h) fun u s1 ⟨x, H1, I1, rx, a, kvs, ex, ⟨hd, xs, rel, dd⟩, q1⟩ => ?_)
  subst ex
  obtain rfl : u = Value.ref a := rx
  have d1 := dd X.prog s1.heap I1.kIn
  refine ⟨d1.typeIs, fun b q => ?_, ?_⟩
  · cases q
    obtain ⟨ob, _, _, h1, h2, _⟩ := d1
    exact ⟨ob, h1, h2.2.1⟩
  rw [m.trees]
  refine Calls.callWith_builtin rfl (Calls.evalArgs_plain (Calls.spliced_cons (thn (he.run pins s1 σ H1 _ I1 q1) fun iv s2 ⟨y, H2, I2, ry, q2⟩ =>
    Calls.spliced_cons (thn (hf.run pins s2 σ H2 _ I2 q2) fun fv s3 ⟨z, H3, I3, rz, b, ks, ey, eb, q3⟩ => Calls.spliced_nil ?_))))
  subst ey
  obtain rfl : iv = Value.ref b := ry
  have d3 := dd X.prog s3.heap I3.kIn
  refine call_meetsIn PySem.F.slot_dict_get d3.typeIs PySem.F.entry_dict_get (PySem.F.args_dict_get_3 _ _ _) (meetsH_dict_get_default (tupleKind (mixKind X.prog X.w)) a b hd fv) ⟨tupleKind_room_in1 hu, ks, xs, key_of I3.hok eb, d3, ⟨_, H3, I3.tok _, ?_, q3⟩⟩
  exact (rel.val ks).getD rz
end
end
section
open PySem PySem.Spec PyProof.Rows L2
abbrev KeyX : Type := Sum Key (List Key)
def hashX (w : World) : KeyX → Int
  | .inl k => keyH w k
  | .inr ks => reduceHash (Builtin.Tuple.tupleHashOf (ks.map (keyH w)))
def keyV : Value → Option Key
  | .str x _ => some (.inr x)
  | .int i _ => some (.inl i)
  | _ => none
def keyL : List Value → Option (List Key)
  | [] => some []
  | v :: r => match keyV v, keyL r with
    | some k, some ks => some (k :: ks)
    | _, _ => none
def keyX (K : PySem.W.Frag) : Value → Option KeyX
  | .ref b => (match K.lookup b with
    | some ⟨.type c, _, .seq its _, _⟩ => (match decide (c = "tuple") with
      | true => (match keyL its.toList with
        | some ks => some (.inr ks)
        | none => none)
      | false => none)
    | _ => none)
  | v => (match keyV v with
    | some k => some (.inl k)
    | none => none)
def tabE (K : PySem.W.Frag) (e : DictEntry) : Option (KeyX × Int) := match keyX K e.key with
  | some k => some (k, e.hash)
  | none => none
def tabW (K : PySem.W.Frag) (a : Addr) : Option (List (Option (KeyX × Int))) := match K.lookup a with
  | some ⟨.type c, none, .dict es _, sl⟩ => (match decide (c = "dict") && (sl.isEmpty && !(a == sysModules)) with
    | true => some (es.toList.map (tabE K))
    | false => none)
  | _ => none
def keysX (w : World) (ks : List KeyX) : List (Option (KeyX × Int)) := ks.map fun k => some (k, hashX w k)
def relAllB : List V → List Value → Bool
  | [], [] => true
  | x :: xs, u :: us => He.relB x u && relAllB xs us
  | _, _ => false
def tabV (K : PySem.W.Frag) (a : Addr) (xs : List V) : Bool := match K.lookup a with
  | some ⟨_, _, .dict es _, _⟩ => relAllB xs (es.toList.map (·.val))
  | _ => false
theorem tabW_obj {K : PySem.W.Frag} {a : Addr} {l : List (Option (KeyX × Int))} (h : tabW K a = some l) : ∃ es n, K.lookup a = some ⟨.type "dict", none, .dict es n, #[]⟩ ∧ es.toList.map (tabE K) = l ∧ (a == sysModules) = false := by
  unfold tabW at h
  cases q : K.lookup a with
  | none =>
    rw [q] at h
    cases h
  | some o =>
    obtain ⟨oc, od, dt, osl⟩ := o
    rw [q] at h
    cases oc with
    | type c =>
      cases od with
      | none =>
        cases dt with
        | dict es n =>
          have h1 : (match decide (c = "dict") && (osl.isEmpty && !(a == sysModules)) with
            | true => some (es.toList.map (tabE K))
            | false => none) = some l := h
          cases z : decide (c = "dict") && (osl.isEmpty && !(a == sysModules)) with
          | false =>
            rw [z] at h1
            cases h1
          | true =>
            rw [z] at h1
            obtain ⟨z1, z2⟩ := both z
            obtain ⟨z3, z4⟩ := both z2
            have e1 : c = "dict" := of_decide_eq_true z1
            have e2 : osl = #[] := Array.isEmpty_iff.mp z3
            have e3 : (a == sysModules) = false := by
              cases y : a == sysModules with
              | false => rfl
              | true =>
                rw [y] at z4
                cases z4
            subst e1 e2
            exact ⟨es, n, rfl, Option.some.inj h1, e3⟩
        | _ => cases h
      | some b => cases dt <;> cases h
    | _ => cases od <;> cases dt <;> cases h
theorem keyV_is {v : Value} {k : Key} (h : keyV v = some k) : keyIs k v = true := by
  unfold keyV at h
  split at h
  · cases h
    exact keyIs_str _ _
  · cases h
    exact keyIs_int _ _
  · cases h
theorem keyX_inl {K : PySem.W.Frag} {v : Value} {k : Key} (h : keyX K v = some (.inl k)) : keyIs k v = true := by
  unfold keyX at h
  split at h
  · split at h
    · split at h
      · split at h <;> cases h
      · cases h
    · cases h
  · split at h
    · rename_i k0 q
      cases h
      exact keyV_is q
    · cases h
theorem keyX_inr {K : PySem.W.Frag} {v : Value} {ks : List Key} (h : keyX K v = some (.inr ks)) : ∃ (b : Addr) (o : Obj) (its : Array Value) (n : Nat), v = .ref b ∧ K.lookup b = some o ∧ o.cls = .type "tuple" ∧ o.data = .seq its n ∧ keyL its.toList = some ks := by
  unfold keyX at h
  split at h
  · rename_i b
    split at h
    · rename_i c d its n sl hL
      split at h
      · rename_i hc
        split at h
        · rename_i ks0 q
          cases h
          have hc : c = "tuple" := of_decide_eq_true hc
          subst hc
          exact ⟨_, _, its, n, rfl, hL, rfl, rfl, q⟩
        · cases h
      · cases h
    · cases h
  · split at h <;> cases h
theorem tabE_of {K : PySem.W.Frag} {e : DictEntry} {k : KeyX} {z : Int} (h : tabE K e = some (k, z)) : keyX K e.key = some k ∧ e.hash = z := by
  unfold tabE at h
  split at h
  · rename_i k0 q
    have h1 := Option.some.inj h
    obtain ⟨h2, h3⟩ := Prod.mk.inj h1
    exact ⟨by rw [q, h2], h3⟩
  · cases h
theorem kv_zip : ∀ (xs : List V) (us : List Value), relAllB xs us = true → ∀ {κ : Type} (ks : List κ), KV (ks.zip xs) (ks.zip us)
  | [], [], _, _, ks => by
    cases ks <;> exact .nil
  | x :: xs, u :: us, h, _, [] => .nil
  | x :: xs, u :: us, h, _, k :: ks => .cons ⟨rfl, He.relB_ok (both h).1⟩ (kv_zip xs us (both h).2 ks)
  | [], _ :: _, h, _, _ => by cases h
  | _ :: _, [], h, _, _ => by cases h
theorem tab_pairs {P : Program} {w : World} {K : PySem.W.Frag} : ∀ (l : List DictEntry) (ks : List Key), l.map (tabE K) = keysX w (ks.map .inl) →
    Pairs (mixKind P w) l (ks.zip (l.map (·.val))) ∧ (∀ e ∈ l, ∃ k, (mixKind P w).is k e.key = true ∧ e.hash = (mixKind P w).hash k) ∧ l.length = ks.length
  | [], [], _ => ⟨.nil, fun _ h => absurd h (by simp), rfl⟩
  | [], _ :: _, h => by cases h
  | _ :: _, [], h => by cases h
  | e :: l, k :: ks, h => by
    have h1 : tabE K e :: l.map (tabE K) = some (.inl k, hashX w (.inl k)) :: keysX w (ks.map .inl) := h
    injection h1 with h2 h3
    obtain ⟨a1, a2⟩ := tabE_of h2
    have a1 := keyX_inl a1
    obtain ⟨p1, p2, p3⟩ := tab_pairs (P := P) l ks h3
    refine ⟨.cons a1 rfl p1, fun x hx => ?_, congrArg (· + 1) p3⟩
    rcases List.mem_cons.mp hx with q | q
    · rw [q]
      exact ⟨k, a1, a2⟩
    · exact p2 x q
theorem fst_zip {α β : Type} : ∀ (ks : List α) (us : List β), us.length = ks.length → (ks.zip us).map (·.1) = ks
  | [], _, _ => by simp
  | k :: ks, [], h => by cases h
  | k :: ks, u :: us, h => by
    show k :: (ks.zip us).map (·.1) = k :: ks
    rw [fst_zip ks us (Nat.succ.inj h)]
theorem tab_ok {w : World} {K : PySem.W.Frag} {a : Addr} {ks : List Key} {xs : List V} (h : tabW K a = some (keysX w (ks.map .inl))) (hv : tabV K a xs = true) (nd : ks.Nodup) : TabAt K w a (ks.zip xs) := by
  obtain ⟨es, n, hK, he, hs⟩ := tabW_obj h
  unfold tabV at hv
  rw [hK] at hv
  have hv : relAllB xs (es.toList.map (·.val)) = true := hv
  refine ⟨hs, ks.zip (es.toList.map (·.val)), kv_zip _ _ hv ks, fun P hp hin => ?_⟩
  obtain ⟨p1, p2, p3⟩ := tab_pairs (P := P) es.toList ks he
  refine ⟨_, es, n, hin a _ hK, ⟨rfl, rfl, rfl⟩, rfl, fun e hm => p2 e (Array.mem_toList_iff.mpr hm), p1, ?_⟩
  rw [fst_zip _ _ (by rw [List.length_map]; exact p3)]
  exact nd
theorem keyL_are {P : Program} {w : World} : ∀ (l : List Value) (ks : List Key), keyL l = some ks → ItemsAre (mixKind P w) ks l
  | [], ks, h => by
    cases h
    exact .nil
  | v :: l, ks, h => by
    unfold keyL at h
    split at h
    · rename_i k ks0 q1 q2
      cases h
      exact .cons (keyV_is q1) (keyL_are l _ q2)
    · cases h
theorem tab_ents {P : Program} {w : World} {K : PySem.W.Frag} : ∀ (l : List DictEntry) (ks : List (List Key)) (ys : List V), l.map (tabE K) = keysX w (ks.map .inr) → relAllB ys (l.map (·.val)) = true →
    ∃ xs : List (List Key × Addr × Value), l = xs.map (entryOfKey (tupleKind (mixKind P w))) ∧ (∀ x ∈ xs, ∃ (o : Obj) (its : Array Value) (n : Nat), K.lookup x.2.1 = some o ∧ o.cls = .type "tuple" ∧ o.data = .seq its n ∧ keyL its.toList = some x.1) ∧ xs.map (·.1) = ks ∧ KTk (ks.zip ys) xs
  | [], [], [], _, _ => ⟨[], rfl, fun _ h => absurd h (by simp), rfl, .nil⟩
  | [], [], _ :: _, _, h => by cases h
  | [], _ :: _, _, h, _ => by cases h
  | _ :: _, [], _, h, _ => by cases h
  | _ :: _, _ :: _, [], _, h => by cases h
  | e :: l, k :: ks, y :: ys, h, hv => by
    have h1 : tabE K e :: l.map (tabE K) = some (.inr k, hashX w (.inr k)) :: keysX w (ks.map .inr) := h
    injection h1 with h2 h3
    obtain ⟨a1, a2⟩ := tabE_of h2
    obtain ⟨b, o, its, n, c1, c2, c3, c4, c5⟩ := keyX_inr a1
    have hv : (He.relB y e.val && relAllB ys (l.map (·.val))) = true := hv
    obtain ⟨xs, d1, d2, d3, d4⟩ := tab_ents (P := P) l ks ys h3 (both hv).2
    refine ⟨(k, b, e.val) :: xs, ?_, fun x hx => ?_, congrArg (k :: ·) d3, .cons ⟨rfl, He.relB_ok (both hv).1⟩ d4⟩
    · obtain ⟨eh, ek, ev⟩ := e
      have c1 : ek = .ref b := c1
      have a2 : eh = hashX w (.inr k) := a2
      rw [c1, a2, d1]
      rfl
    · rcases List.mem_cons.mp hx with q | q
      · rw [q]
        exact ⟨o, its, n, c2, c3, c4, c5⟩
      · exact d2 x q
theorem tab_okT {w : World} {K : PySem.W.Frag} {a : Addr} {ks : List (List Key)} {ys : List V} (h : tabW K a = some (keysX w (ks.map .inr))) (hv : tabV K a ys = true) (nd : ks.Nodup) : TabTAt K w a (ks.zip ys) := by
  obtain ⟨es, n, hK, he, hs⟩ := tabW_obj h
  unfold tabV at hv
  rw [hK] at hv
  have hv : relAllB ys (es.toList.map (·.val)) = true := hv
  obtain ⟨xs, d1, d2, d3, d4⟩ := tab_ents (P := default) es.toList ks ys he hv
  refine ⟨hs, xs, d4, fun P hp hin => ⟨_, es, n, hin a _ hK, ⟨rfl, rfl, rfl⟩, rfl, d1, fun x hx => ?_, by rw [d3]; exact nd⟩⟩
  obtain ⟨o, its, m, c1, c2, c3, c4⟩ := d2 x hx
  exact ⟨o, its, m, hin _ _ c1, c2, c3, keyL_are _ _ c4⟩
end

/-! ### the Hook with such dicts -/
abbrev TabX : Type := Str × List KeyX
abbrev AlX : Type := AlM × List (Option (List (Option (KeyX × Int))))
def obsX (fa : List He.Fa) (ex : Frg → Bool) (fn : List DefM) (ts : List TabX) (K : Frg) : AlX := (obsM fa ex fn K, ts.map fun t => tabW K (He.ga K t.1))
def valX (fn : List DefM) (ts : List TabX) (w : World) : AlX := (valM fn, ts.map fun t => some (keysX w t.2))
def SaysX (fa : List He.Fa) (ex : Frg → Bool) (fn : List DefM) (ts : List TabX) (w : World) (K : Frg) : Prop := obsX fa ex fn ts K = valX fn ts w
def hookX (n : Nat) (fa : List He.Fa) (ex : Frg → Bool) (fn : List DefM) (ts : List TabX) : PySem.W.Hook where
  α := AlX
  obs := fun s => obsX fa ex fn ts (frM n s.heap.get?)
  val := fun w => valX fn ts w
  says := fun w h => ∃ K : Frg, K.In h ∧ SaysX fa ex fn ts w K
  of := fun _ _ e => ⟨_, He.frG_in, e⟩
  keeps := fun _ _ _ ⟨K, hK, c⟩ k => ⟨K, PySem.W.Frag.In.keeps hK k, c⟩
theorem obsX_eq {n : Nat} {fa : List He.Fa} {ex : Frg → Bool} {fn : List DefM} {ts : List TabX} {g : Addr → Option Obj} {s : Shared} (h : ∀ a, g a = s.heap.get? a) : obsX fa ex fn ts (frM n g) = (hookX n fa ex fn ts).obs s := by
  have e : g = s.heap.get? := funext h
  subst e
  rfl
section
variable {fa : List He.Fa} {ex : Frg → Bool} {fn : List DefM} {ts : List TabX} {w : World} {K : Frg}
theorem SaysX.m (c : SaysX fa ex fn ts w K) : SaysM fa ex fn K := congrArg (fun z : AlX => z.1) c
theorem SaysX.tab (c : SaysX fa ex fn ts w K) (i : Nat) {t : TabX} (h : ts[i]? = some t) : tabW K (He.ga K t.1) = some (keysX w t.2) := by
  have e : ts.map (fun t => tabW K (He.ga K t.1)) = ts.map fun t => some (keysX w t.2) := congrArg (fun z : AlX => z.2) c
  have e2 : (ts.map fun t => tabW K (He.ga K t.1))[i]? = (ts.map fun t => some (keysX w t.2))[i]? := by rw [e]
  rw [List.getElem?_map, List.getElem?_map, h] at e2
  exact Option.some.inj e2
end
/-! ### a display of a dict asks the world one thing: both answers are run -/
def setF (w : World) (b : Bool) : World := { w with params := { w.params with followText := fun x => if x = "special-get-raises" then b else w.params.followText x } }
theorem setF_eq (w : World) : setF w (w.params.followText "special-get-raises") = w := by
  have e : (fun x => if x = "special-get-raises" then w.params.followText "special-get-raises" else w.params.followText x) = w.params.followText := by
    funext x
    by_cases h : x = "special-get-raises"
    · rw [if_pos h, h]
    · rw [if_neg h]
  show ({ w with params := { w.params with followText := fun x => if x = "special-get-raises" then w.params.followText "special-get-raises" else w.params.followText x } } : World) = w
  rw [e]

/-! ### own classes: made, their fields and methods -/
theorem lk_hit (k : Str) (v : V) (r : List (Str × V)) : List.lookup k ((k, v) :: r) = some v := by simp [List.lookup]
theorem lk_miss {k a : Str} {v : V} {r : List (Str × V)} (h : (a == k) = false) : List.lookup a ((k, v) :: r) = List.lookup a r := by
  show (match a == k with
    | true => some v
    | false => List.lookup a r) = _
  rw [h]
theorem pf_nil (k : Str) (v : V) : putF k v [] = [(k, v)] := rfl
theorem pf_hit (k : Str) (v x : V) (r : List (Str × V)) : putF k v ((k, x) :: r) = (k, v) :: r := if_pos rfl
theorem pf_miss {k g : Str} {v x : V} {r : List (Str × V)} (h : ¬ g = k) : putF k v ((g, x) :: r) = (g, x) :: putF k v r := if_neg h
section
variable {X : Cx} {k j : Nat} {C : Addr} {x m : Str} {sp : Sp} {dvs : List V} {p pos apos : Pos} {e o : Expr} {es : List Expr} {ta : TE} {t : TA}
theorem pe_mk0 (c : Mak X.prog X.w X.K X.mg X.base k x C sp dvs) (hr : Room j X.A) (hk : k + 1 ≤ j) (hg : Gl X x) (hdb : (x == ("__debug__" : Str)) = false := by decide) : PE X (.Call (.Name x p) [] [] pos) (tMake C sp dvs C8.E0 tNil) := by
  obtain ⟨_, _, _, _, M, F, hm, b, d⟩ := c.ex
  exact pe_make0 M F (hr.mono hk) hg hm b d pass0 hdb
/-- a property of the class at C -/
structure Prp (P : Program) (w : World) (K : Frg) (mg : Str → Option Value) (base : Heap) (k : Nat) (C : Addr) (f : Str) (sp : Sp) : Prop where
  ex : ∃ (q g : Addr) (fd : FuncData) (ps : List Str), Cls K C ∧ PropOf K C f q g ∧ FnOk P w K mg base CX0 k g fd ps sp ∧ Binds K fd ps []
theorem pe_pr {f : Str} (c : Prp X.prog X.w X.K X.mg X.base k C f sp) (hr : Room j X.A) (hk : k + 1 ≤ j) (he : PE X o ta) (hab : attributeBase o f X.env (eval o X.env) = eval o X.env := by rfl) : PE X (.Attribute o f pos) (tProp C sp [] C8.E0 ta) := by
  obtain ⟨_, _, _, _, cl, q, F, b⟩ := c.ex
  exact pe_prop he cl q F (hr.mono hk) b .nil pass0 hab
end
section
variable {P : Program} {w : World} {K : Frg} {mg : Str → Option Value} {base : Heap} {x qual : Str} {params : Arguments} {body : List Stmt} {scope : Scope} {f : Addr} {fd : FuncData} {N ps : List Str} {k : Nat} {sp : Sp} {C : Addr}
theorem metD (F : FunD K x qual params body scope [] [] f fd) (cl : Cls K C) (me : Meth K C x f) (S : FnScope N ps scope)
    (hb : ∀ (kV doc pm : Value) (an : Option Addr) (cdv ct : Value) (us : List Value), us.length = ps.length → bindArgs (PySem.W.fnOf x qual params body scope .none kV doc pm an cdv ct) ⟨us, []⟩ = pure (ps.zip us))
    (len : ∀ vs H Q E, sp vs H Q E → vs.length = ps.length)
    (hbody : ∀ (cdv : Value) (A : Around) (outer : List Env) (s : Shared) (H : Hp) (vs : List V) (Q : VK) (E : XK), Room k (A.deeper (envOfC qual scope s.heap.objs.size f cdv)) → sp vs H Q E →
      ∃ t, PSs (cxOf CX0 P w K mg base N qual scope f cdv A outer s H E).nox body t ∧ t { nx := fun _ H' => Q .non H', rt := Q } (start N vs) H) : Met P w K mg base (k + 1) C x sp [] :=
  ⟨f, fd, ps, [], cl, me, fnD F S len hbody, F.bindsN hb, .nil⟩
theorem makD {y : Str} (F : FunD K x qual params body scope [] [] f fd) (M : Mk K C f) (m : mg y = some (.ref C)) (S : FnScope N ps scope)
    (hb : ∀ (kV doc pm : Value) (an : Option Addr) (cdv ct : Value) (us : List Value), us.length = ps.length → bindArgs (PySem.W.fnOf x qual params body scope .none kV doc pm an cdv ct) ⟨us, []⟩ = pure (ps.zip us))
    (len : ∀ vs H Q E, sp vs H Q E → vs.length = ps.length)
    (hbody : ∀ (cdv : Value) (A : Around) (outer : List Env) (s : Shared) (H : Hp) (vs : List V) (Q : VK) (E : XK), Room k (A.deeper (envOfC qual scope s.heap.objs.size f cdv)) → sp vs H Q E →
      ∃ t, PSs (cxOf CX0 P w K mg base N qual scope f cdv A outer s H E).nox body t ∧ t { nx := fun _ H' => Q .non H', rt := Q } (start N vs) H) : Mak P w K mg base (k + 1) y C sp [] :=
  ⟨f, fd, ps, [], M, fnD F S len hbody, m, F.bindsN hb, .nil⟩
theorem prpD {y : Str} {q : Addr} (F : FunD K x qual params body scope [] [] f fd) (cl : Cls K C) (pr : PropOf K C y q f) (S : FnScope N ps scope)
    (hb : ∀ (kV doc pm : Value) (an : Option Addr) (cdv ct : Value) (us : List Value), us.length = ps.length → bindArgs (PySem.W.fnOf x qual params body scope .none kV doc pm an cdv ct) ⟨us, []⟩ = pure (ps.zip us))
    (len : ∀ vs H Q E, sp vs H Q E → vs.length = ps.length)
    (hbody : ∀ (cdv : Value) (A : Around) (outer : List Env) (s : Shared) (H : Hp) (vs : List V) (Q : VK) (E : XK), Room k (A.deeper (envOfC qual scope s.heap.objs.size f cdv)) → sp vs H Q E →
      ∃ t, PSs (cxOf CX0 P w K mg base N qual scope f cdv A outer s H E).nox body t ∧ t { nx := fun _ H' => Q .non H', rt := Q } (start N vs) H) : Prp P w K mg base (k + 1) C y sp :=
  ⟨q, f, fd, ps, cl, pr, fnD F S len hbody, F.bindsN hb⟩
end
section
variable {σ : St} {H : Hp} {n b c : St → Hp → Prop} {r : VK} {Q : VK} {K : Frg} {a C dx : Addr} {fs : List (Str × V)} {f : Str} {v : V}
theorem r_fld {te : TE} (h : te σ H fun x H1 => ∃ a C dx fs v, x = .ref a ∧ H1 a = some (.ins C dx fs) ∧ Cls K C ∧ NoAttr K C f ∧ fs.lookup f = some v ∧ Q v H1) : tFld K te f σ H Q := h
theorem r_fget {R : V → Prop} (h : H a = some (.ins C dx fs)) (cl : Cls K C) (na : NoAttr K C f) (l : fs.lookup f = some v) (q : R v) :
    ∃ a' C dx fs v, V.ref a = .ref a' ∧ H a' = some (.ins C dx fs) ∧ Cls K C ∧ NoAttr K C f ∧ fs.lookup f = some v ∧ R v := ⟨a, C, dx, fs, v, rfl, h, cl, na, l, q⟩
theorem r_sfld {ta tv : TE} (h : tv σ H fun y H1 => ta σ H1 fun x H2 => ∃ a C dx fs, x = .ref a ∧ H2 a = some (.ins C dx fs) ∧ Cls K C ∧ NoAttr K C f ∧ fs.length < 1000 ∧ n σ (upd H2 a (.ins C dx (putF f y fs)))) : sFld K ta tv f ⟨n, r, b, c⟩ σ H := h
theorem r_fset {R : Hp → Prop} {fs' : List (Str × V)} (h : H a = some (.ins C dx fs)) (cl : Cls K C) (na : NoAttr K C f) (hl : fs.length < 1000) (e : putF f v fs = fs') (q : R (upd H a (.ins C dx fs'))) :
    ∃ a' C dx fs, V.ref a = .ref a' ∧ H a' = some (.ins C dx fs) ∧ Cls K C ∧ NoAttr K C f ∧ fs.length < 1000 ∧ R (upd H a' (.ins C dx (putF f v fs))) := ⟨a, C, dx, fs, rfl, h, cl, na, hl, by rw [e]; exact q⟩
theorem r_meth {m : Str} {sp : Sp} {dvs : List V} {E : XK} {ta : TE} {t : TA} (h : ta σ H fun x H1 => ∃ a dx fs, x = .ref a ∧ H1 a = some (.ins C dx fs) ∧ fs.lookup m = none ∧ t σ H1 fun vs H2 => sp (x :: (vs ++ dvs)) H2 Q E) : tMeth C m sp dvs E ta t σ H Q := h
theorem r_mget {m : Str} {R : Prop} (h : H a = some (.ins C dx fs)) (l : fs.lookup m = none) (q : R) : ∃ a' dx fs, V.ref a = .ref a' ∧ H a' = some (.ins C dx fs) ∧ fs.lookup m = none ∧ R := ⟨a, dx, fs, rfl, h, l, q⟩
theorem r_prop {sp : Sp} {dvs : List V} {E : XK} {ta : TE} (h : ta σ H fun x H1 => ∃ a dx fs, x = .ref a ∧ H1 a = some (.ins C dx fs) ∧ sp (.ref a :: dvs) H1 Q E) : tProp C sp dvs E ta σ H Q := h
theorem r_pget {R : Addr → Prop} (h : H a = some (.ins C dx fs)) (q : R a) : ∃ a' dx fs, V.ref a = .ref a' ∧ H a' = some (.ins C dx fs) ∧ R a' := ⟨a, dx, fs, rfl, h, q⟩
theorem r_make {sp : Sp} {dvs : List V} {E : XK} {t : TA} (h : t σ H fun vs H1 => ∀ x dx, H1 x = none → H1 dx = none → dx ≠ x → sp (.ref x :: (vs ++ dvs)) (upd (upd H1 dx (.own x)) x (.ins C dx [])) (fun v H2 => v = .non ∧ Q (.ref x) H2) E) : tMake C sp dvs E t σ H Q := h
end

/-! ### loops over rows -/
section
variable {X : Cx} {tg iter : Expr}
/-- one of two ways to come by an iterator -/
theorem pi_or {u v : TI} (h1 : PI X tg iter u) (h2 : PI X tg iter v) : PI X tg iter (fun σ H R => u σ H R ∨ v σ H R) := by
  refine ⟨fun pins s σ H R I h => ?_⟩
  rcases h with h | h
  · exact h1.run pins s σ H R I h
  · exact h2.run pins s σ H R I h
end
set_option maxHeartbeats 8000000 in
theorem meets_enum1 {v : Value} {o : Obj} {G : Heap → Prop} (B : Begins v o G) :
    Meets (Builtin.«enumerate.__new__» ⟨[.type "enumerate", v], []⟩) (fun _ R s => G s.heap ∧
      R (.ok (.ret (.ref (s.heap.push o).objs.size))) { s with heap := (s.heap.push o).push { cls := .type "enumerate", data := .fields #[.none, .bool false, .ref s.heap.objs.size, rawInt 0, .none, .none] } }) :=
  .of_wp fun prog w A R s h => by
    obtain ⟨hp, g, d, tk, os⟩ := s
    obtain ⟨h1, h⟩ := h
    have hsub := sub_enumerate
    have q1 : ∀ {A' : Around} {E : Value → Shared → Prop} {Q : Value → Shared → Prop}, Q (.ref hp.objs.size) ⟨hp.push o, g, d, tk, os⟩ → wpAny (model prog w) A' (pyIter v) Q E ⟨hp, g, d, tk, os⟩ :=
      fun q => B.iter prog w _ _ ⟨hp, g, d, tk, os⟩ _ h1 q
    wp_walk using q1
    refine wpAny_stack_any fun st => wpAny_pure ?_
    split
    · rename_i c _ _ _ _ _
      cases (c == Value.type "enumerate")
      · wp_walk using q1
        exact ⟨_, rfl, h⟩
      · wp_walk using q1
        exact ⟨_, rfl, h⟩
    · wp_walk using q1
      exact ⟨_, rfl, h⟩
theorem call_enum1 {prog : Program} {w : World} {A : Around} {E : Value → Shared → Prop} {s : Shared} {v : Value} {o : Obj} {G : Heap → Prop} {Q : Value → Shared → Prop} (B : Begins v o G) (h1 : G s.heap)
    (h : ∀ h', IsEnum h' (s.heap.objs.size + 1) s.heap.objs.size 0 .none → h'.get? s.heap.objs.size = some o → h'.objs.size = s.heap.objs.size + 2 →
      (∀ b o, s.heap.get? b = some o → h'.get? b = some o) → Q (.ref (s.heap.objs.size + 1)) { s with heap := h' }) : wpAny (model prog w) A (call (.type "enumerate") [v]) Q E s := by
  refine callType_new F.called_enumerate (by decide) (F.typeCall_enumerate_1 _) (F.newCall_enumerate_1 _) (fun obj => F.args_object_init_2 obj _) F.entry_enumerate_new (meets_enum1 B) ⟨h1, ?_⟩
  have hz : (s.heap.push o).objs.size = s.heap.objs.size + 1 := Heap.size_push ..
  show _ ∧ _
  rw [hz]
  have he := Heap.get?_push_size (s.heap.push o) (o := { cls := .type "enumerate", data := .fields #[.none, .bool false, .ref s.heap.objs.size, rawInt 0, .none, .none] }) rfl
  rw [hz] at he
  exact ⟨⟨_, he, rfl⟩, h _ he (Heap.get?_push_of_some _ (Heap.get?_push_size _ B.free)) (by rw [Heap.size_push, hz]) fun b o x => Heap.get?_push_of_some _ (Heap.get?_push_of_some _ x)⟩
/-- the tuple at a, each item in a new pair -/
def Itet (K : PySem.W.Frag) (a : Addr) (xs : List V) : It :=
  ⟨fun i H => SqT K H a xs ∧ i < xs.length, fun i H v H' => ∃ T x, v = .ref T ∧ H T = none ∧ H' = upd H T (.tup [.int (i : Nat), x]) ∧ xs[i]? = some x, fun i H => SqT K H a xs ∧ xs.length ≤ i⟩
theorem turn_enumT {P : Program} {w : World} {K : PySem.W.Frag} {elts : List Expr} {kk : Nat} {tpos : Pos} (a e it : Addr) (xs : List V) (hta : a ≠ it) :
    Turn P w K (.Tuple elts kk tpos) (Itet K a xs) [e, it] e (fun i h => (∃ old, IsEnum h e it ((i : Nat) : Int) old) ∧ h.IsTupleIter it a i ∧ e ≠ it ∧ i ≤ xs.length) where
  mem := by simp
  obj := fun i h st b hb => by
    obtain ⟨⟨old, he⟩, ⟨o, ho, hc, hd⟩, _⟩ := st
    have e' : b = e ∨ b = it := by simpa using hb
    rcases e' with z | z
    · rw [z]
      exact ⟨_, he, fun v q => nomatch q⟩
    · rw [z]
      exact ⟨o, ho, fun v q => by rw [hd] at q; cases q⟩
  keep := fun i h h' st k => let ⟨⟨old, he⟩, hi, hne, hn⟩ := st; ⟨⟨old, k e (by simp) _ he⟩, hi.at fun o q => k it (by simp) o q, hne, hn⟩
  item := by
    intro X hP hw hK hc i pins s σ H E I hf st hg
    subst hP hw hK
    obtain ⟨⟨old, he⟩, hit, hne, hn⟩ := st
    obtain ⟨hq, hlt⟩ := hg
    obtain ⟨its, rv, p, hz⟩ := I.tuple hq
    have p' : s.heap.IsTuple a its.toArray := p
    have hl := rv.length
    have hel : e < s.heap.objs.size := Heap.lt_size he
    have hil : it < s.heap.objs.size := by
      obtain ⟨_, q, _⟩ := hit
      exact Heap.lt_size q
    have hea : e ≠ a := fun q => by
      obtain ⟨o, ho, hc', _⟩ := p'
      rw [← q, he] at ho
      cases ho
      have z : Value.type "enumerate" = Value.type "tuple" := hc'
      injection z with z
      exact absurd z (by decide)
    have D := Draws.tuple (prog := X.prog) (w := X.w) (A := X.A.in1) (I.ok.hd hc) it a hta its.toArray
    refine wpAny_pyNext_enum_itemD D he ⟨hit, p'⟩ (by simpa [← hl] using hlt) hne (by simp [hne, hea]) fun u h' tk hu ho hs' hT hsz hk => ?_
    obtain ⟨x, hx, ru⟩ : ∃ x, xs[i]? = some x ∧ RelV x u := by
      obtain ⟨u', hu', r'⟩ := rv.get (List.getElem?_eq_getElem hlt)
      have e1 : its[i]? = some u := by simpa using hu
      rw [e1] at hu'
      cases hu'
      exact ⟨_, List.getElem?_eq_getElem hlt, r'⟩
    refine ⟨_, rfl, wpAny_letOwnedTupleGo_enum (s := { s with heap := h', toks := tk + 1 }) ho fun h'' he' sb => ?_⟩
    have hT2 : h''.get? s.heap.objs.size = some { cls := .type "tuple", data := .seq #[.int i tk, u] } := (sb.2 _ (Nat.ne_of_gt hel)).trans hT
    have new : ObjOk X.prog X.w (upd H s.heap.objs.size (.tup [.int (i : Nat), x])) h'' s.heap.objs.size (.tup [.int (i : Nat), x]) :=
      ⟨by show 2 ≤ sizeLine; decide, [.int i tk, u], .cons ⟨_, rfl⟩ (.cons ru .nil), ⟨_, hT2, rfl, _, rfl⟩⟩
    have I1 : Inv X pins σ (upd H s.heap.objs.size (.tup [.int (i : Nat), x])) { s with heap := h'', toks := tk + 1 } :=
      I.turnedNew (ch := [e, it]) (fun b ob hb q => (sb.2 b (fun z => hb (by simp [z]))).trans (hk b ob (fun z => hb (by simp [z])) (fun z => hb (by simp [z])) q)) hf (Nat.le_refl _) new
    refine ⟨.ref s.heap.objs.size, _, I1, rfl, ⟨_, x, rfl, I.hok.fresh (Nat.le_refl _), rfl, hx⟩, ⟨⟨u, ?_⟩, hs'.1.at fun o q => (sb.2 it (Ne.symm hne)).trans q, hne, hlt⟩, fun b hb => ?_⟩
    · have e1 : ((i + 1 : Nat) : Int) = (i : Int) + 1 := by omega
      rw [e1]
      exact he'
    · have hb' : b < s.heap.objs.size := by
        have e' : b = e ∨ b = it := by simpa using hb
        rcases e' with z | z
        · rw [z]
          exact hel
        · rw [z]
          exact hil
      rw [upd_ne (Nat.ne_of_lt hb')]
      exact (hf b hb).1
  done := by
    intro X hP hw hK hc i pins s σ H E I hf st hg
    subst hP hw hK
    obtain ⟨⟨old, he⟩, hit, hne, hn⟩ := st
    obtain ⟨hq, hx⟩ := hg
    obtain ⟨its, rv, p, hz⟩ := I.tuple hq
    have p' : s.heap.IsTuple a its.toArray := p
    obtain ⟨f0, f1, f2, f3, f4, f5⟩ := hf it (by simp)
    have hl := rv.length
    have hi : i = its.toArray.size := by
      simp
      omega
    subst hi
    have D := Draws.tuple (prog := X.prog) (w := X.w) (A := X.A.in1) (I.ok.hd hc) it a hta its.toArray
    exact wpAny_pyNext_enum_endD D he ⟨hit, p'⟩ fun h' eb => ⟨rfl, I.turned (t' := s.toks) (fun b o hb q => eb b o hb q) f0 f1 f3 f4 f5⟩
  self := fun A i s Q E st h => let ⟨⟨_, he⟩, _⟩ := st; wpAny_pyIter_enum he h
def iEnumT (K : PySem.W.Frag) (ta : TA) : TI := fun σ H R => ta σ H fun vs H1 => ∃ a xs, vs = [.ref a] ∧ SqT K H1 a xs ∧ R (Itet K a xs) H1
theorem pi_enumT {X : Cx} {e : Expr} {ta : TA} {p pos tpos : Pos} {elts : List Expr} {kk : Nat} (hg : Gl X "enumerate") (hm : X.mg "enumerate" = none) (ha : PA X [e] ta) (hs : starEach [e] X.env = [(false, eval e X.env)] := by rfl) :
    PI X (.Tuple elts kk tpos) (.Call (.Name "enumerate" p) [e] [] pos) (iEnumT X.K ta) := by
  refine ⟨fun pins s σ H R I h => ?_⟩
  refine PyProof.Rows.Call_ (ld_blt I hg hm PyProof.Rows.boot_enumerate (PyProof.Rows.callWith_type1 (thn (ha.run pos pins s σ H _ I h) fun us s1 ⟨vs, H1, I1, r1, q1⟩ => ?_) hs rfl))
  obtain ⟨a, xs, ex, hq, q⟩ := q1
  subst ex
  cases r1 with
  | cons r rr =>
    cases rr
    cases r
    obtain ⟨its, rv, p', hz⟩ := I1.tuple hq
    have p2 : s1.heap.IsTuple a its.toArray := p'
    refine call_enum1 (begins_tuple a its.toArray) p2 fun h' he hit hsz hk => wpAny_pyIter_enum he ?_
    have I2 : Inv X pins σ H1 { s1 with heap := h' } := I1.kept (t' := s1.toks) hk
    have hal : a < s1.heap.objs.size := by
      obtain ⟨_, q, _⟩ := p2
      exact Heap.lt_size q
    refine ⟨s1.heap.objs.size + 1, [s1.heap.objs.size + 1, s1.heap.objs.size], _, _, H1, rfl, I2, turn_enumT a (s1.heap.objs.size + 1) s1.heap.objs.size xs (Nat.ne_of_lt hal), ⟨⟨.none, he⟩, ⟨_, hit, rfl, rfl⟩, Nat.succ_ne_self _, Nat.zero_le _⟩, fun b hb => ?_, q⟩
    have e' : b = s1.heap.objs.size + 1 ∨ b = s1.heap.objs.size := by simpa using hb
    have hle : s1.heap.objs.size ≤ b := by
      rcases e' with z | z
      · rw [z]
        exact Nat.le_add_right _ _
      · rw [z]
        exact Nat.le_refl _
    exact I1.fpOk hle (I1.hok.fresh hle)
/-! ### the turns of such loops -/
section
variable {σ : St} {H : Hp} {n b c : St → Hp → Prop} {r : VK} {Q : VK} {K : PySem.W.Frag}
theorem r_each {J : It} {g : TG} {tb : TS} (N : Nat) (Pv : Nat → St → Hp → Prop) (h0 : Pv 0 σ H)
    (hs : ∀ (i : Nat) σ H, i < N → Pv i σ H → J.go i H ∧ ∀ x H', J.yld i H x H' → g x σ H' fun σ2 H2 => tb ⟨Pv (i + 1), r, n, Pv (i + 1)⟩ σ2 H2) (hd : ∀ σ H, Pv N σ H → J.stop N H ∧ n σ H) :
    ∃ W : Nat → Nat → St → Hp → Prop, (∃ m, W 0 m σ H) ∧ ∀ i m σ H, W i m σ H →
    (J.stop i H ∧ n σ H) ∨ (J.go i H ∧ ∃ N : St → Hp → Prop, (∀ σ' H', N σ' H' → ∃ m', m' < m ∧ W (i + 1) m' σ' H') ∧ ∀ x H', J.yld i H x H' → g x σ H' fun σ2 H2 => tb ⟨N, r, n, N⟩ σ2 H2) := by
  refine ⟨fun i m σ H => i ≤ N ∧ m = N - i ∧ Pv i σ H, ⟨N, Nat.zero_le _, rfl, h0⟩, fun i m σ H ⟨hi, hm, hp⟩ => ?_⟩
  by_cases c : i < N
  · obtain ⟨h1, h2⟩ := hs i σ H c hp
    exact .inr ⟨h1, Pv (i + 1), fun σ' H' q => ⟨N - (i + 1), by omega, c, rfl, q⟩, h2⟩
  · have e : i = N := by omega
    subst e
    exact .inl (hd σ H hp)
/-- a for over a list -/
theorem r_eachL {g : TG} {tb : TS} {a : Addr} {xs : List V} (Pv : Nat → St → Hp → Prop) (h0 : Pv 0 σ H) (hl : ∀ i σ H, Pv i σ H → SqL K H a xs)
    (hs : ∀ (i : Nat) x σ H, xs[i]? = some x → Pv i σ H → g x σ H fun σ2 H2 => tb ⟨Pv (i + 1), r, n, Pv (i + 1)⟩ σ2 H2) (hd : ∀ σ H, Pv xs.length σ H → n σ H) :
    ∃ W : Nat → Nat → St → Hp → Prop, (∃ m, W 0 m σ H) ∧ ∀ i m σ H, W i m σ H →
    ((Itl K a).stop i H ∧ n σ H) ∨ ((Itl K a).go i H ∧ ∃ N : St → Hp → Prop, (∀ σ' H', N σ' H' → ∃ m', m' < m ∧ W (i + 1) m' σ' H') ∧ ∀ x H', (Itl K a).yld i H x H' → g x σ H' fun σ2 H2 => tb ⟨N, r, n, N⟩ σ2 H2) := by
  refine r_each xs.length Pv h0 (fun i σ H hi p => ⟨⟨xs, xs[i], hl i σ H p, List.getElem?_eq_getElem hi⟩, ?_⟩) fun σ H p => ⟨⟨xs, hl _ σ H p, Nat.le_refl _⟩, hd σ H p⟩
  rintro x _ ⟨rfl, e⟩
  exact hs i x σ _ (e xs (hl i σ _ p)) p
/-- .. a tuple -/
theorem r_eachT {g : TG} {tb : TS} {a : Addr} {xs : List V} (Pv : Nat → St → Hp → Prop) (h0 : Pv 0 σ H) (hl : ∀ i σ H, Pv i σ H → SqT K H a xs)
    (hs : ∀ (i : Nat) x σ H, xs[i]? = some x → Pv i σ H → g x σ H fun σ2 H2 => tb ⟨Pv (i + 1), r, n, Pv (i + 1)⟩ σ2 H2) (hd : ∀ σ H, Pv xs.length σ H → n σ H) :
    ∃ W : Nat → Nat → St → Hp → Prop, (∃ m, W 0 m σ H) ∧ ∀ i m σ H, W i m σ H →
    ((Itt K a).stop i H ∧ n σ H) ∨ ((Itt K a).go i H ∧ ∃ N : St → Hp → Prop, (∀ σ' H', N σ' H' → ∃ m', m' < m ∧ W (i + 1) m' σ' H') ∧ ∀ x H', (Itt K a).yld i H x H' → g x σ H' fun σ2 H2 => tb ⟨N, r, n, N⟩ σ2 H2) := by
  refine r_each xs.length Pv h0 (fun i σ H hi p => ⟨⟨xs, xs[i], hl i σ H p, List.getElem?_eq_getElem hi⟩, ?_⟩) fun σ H p => ⟨⟨xs, hl _ σ H p, Nat.le_refl _⟩, hd σ H p⟩
  rintro x _ ⟨rfl, e⟩
  exact hs i x σ _ (e xs (hl i σ _ p)) p
/-- .. with the numbers of the turns -/
theorem r_eachE {g : TG} {tb : TS} {a : Addr} {xs : List V} (Pv : Nat → St → Hp → Prop) (h0 : Pv 0 σ H) (hl : ∀ i σ H, Pv i σ H → SqL K H a xs)
    (hs : ∀ (i : Nat) x σ H T, xs[i]? = some x → Pv i σ H → H T = none → g (.ref T) σ (upd H T (.tup [.int (i : Nat), x])) fun σ2 H2 => tb ⟨Pv (i + 1), r, n, Pv (i + 1)⟩ σ2 H2) (hd : ∀ σ H, Pv xs.length σ H → n σ H) :
    ∃ W : Nat → Nat → St → Hp → Prop, (∃ m, W 0 m σ H) ∧ ∀ i m σ H, W i m σ H →
    ((Ite K a).stop i H ∧ n σ H) ∨ ((Ite K a).go i H ∧ ∃ N : St → Hp → Prop, (∀ σ' H', N σ' H' → ∃ m', m' < m ∧ W (i + 1) m' σ' H') ∧ ∀ x H', (Ite K a).yld i H x H' → g x σ H' fun σ2 H2 => tb ⟨N, r, n, N⟩ σ2 H2) := by
  refine r_each xs.length Pv h0 (fun i σ H hi p => ⟨⟨xs, xs[i], hl i σ H p, List.getElem?_eq_getElem hi⟩, ?_⟩) fun σ H p => ⟨⟨xs, hl _ σ H p, Nat.le_refl _⟩, hd σ H p⟩
  rintro _ _ ⟨T, x, rfl, hT, rfl, e⟩
  exact hs i x σ _ T (e xs (hl i σ _ p)) p hT
theorem r_eachET {g : TG} {tb : TS} {a : Addr} {xs : List V} (Pv : Nat → St → Hp → Prop) (h0 : Pv 0 σ H) (hl : ∀ i σ H, Pv i σ H → SqT K H a xs)
    (hs : ∀ (i : Nat) x σ H T, xs[i]? = some x → Pv i σ H → H T = none → g (.ref T) σ (upd H T (.tup [.int (i : Nat), x])) fun σ2 H2 => tb ⟨Pv (i + 1), r, n, Pv (i + 1)⟩ σ2 H2) (hd : ∀ σ H, Pv xs.length σ H → n σ H) :
    ∃ W : Nat → Nat → St → Hp → Prop, (∃ m, W 0 m σ H) ∧ ∀ i m σ H, W i m σ H →
    ((Itet K a xs).stop i H ∧ n σ H) ∨ ((Itet K a xs).go i H ∧ ∃ N : St → Hp → Prop, (∀ σ' H', N σ' H' → ∃ m', m' < m ∧ W (i + 1) m' σ' H') ∧ ∀ x H', (Itet K a xs).yld i H x H' → g x σ H' fun σ2 H2 => tb ⟨N, r, n, N⟩ σ2 H2) := by
  refine r_each xs.length Pv h0 (fun i σ H hi p => ⟨⟨hl i σ H p, hi⟩, ?_⟩) fun σ H p => ⟨⟨hl _ σ H p, Nat.le_refl _⟩, hd σ H p⟩
  rintro _ _ ⟨T, x, rfl, hT, rfl, e⟩
  exact hs i x σ _ T e p hT
/-- .. of range(i, j, c) -/
theorem r_eachR {g : TG} {tb : TS} {i0 j0 c0 : Int} (k : Nat) (hc : RgC i0 j0 c0 k) (Pv : Nat → St → Hp → Prop) (h0 : Pv 0 σ H)
    (hs : ∀ (i : Nat) σ H, i < k → Pv i σ H → g (.int (i0 + i * c0)) σ H fun σ2 H2 => tb ⟨Pv (i + 1), r, n, Pv (i + 1)⟩ σ2 H2) (hd : ∀ σ H, Pv k σ H → n σ H) :
    RgC i0 j0 c0 k ∧ ∃ W : Nat → Nat → St → Hp → Prop, (∃ m, W 0 m σ H) ∧ ∀ i m σ H, W i m σ H →
    ((Itc i0 c0 k).stop i H ∧ n σ H) ∨ ((Itc i0 c0 k).go i H ∧ ∃ N : St → Hp → Prop, (∀ σ' H', N σ' H' → ∃ m', m' < m ∧ W (i + 1) m' σ' H') ∧ ∀ x H', (Itc i0 c0 k).yld i H x H' → g x σ H' fun σ2 H2 => tb ⟨N, r, n, N⟩ σ2 H2) := by
  refine ⟨hc, r_each k Pv h0 (fun i σ H hi p => ⟨hi, ?_⟩) fun σ H p => ⟨Nat.le_refl _, hd σ H p⟩⟩
  rintro _ _ ⟨rfl, rfl⟩
  exact hs i σ _ hi p
theorem r_rng2 {ta : TA} {R : It → Hp → Prop} (h : ta σ H fun vs H1 => ∃ i j : Int, vs = [.int i, .int j] ∧ (-(2 ^ 62) ≤ i ∧ i < 2 ^ 62 ∧ -(2 ^ 62) ≤ j ∧ j < 2 ^ 62) ∧ R (Itr i (j - i).toNat) H1) : iRng2 ta σ H R := h
theorem r_rng3 {ta : TA} {R : It → Hp → Prop} (h : ta σ H fun vs H1 => ∃ (i j c : Int) (n : Nat), vs = [.int i, .int j, .int c] ∧ RgC i j c n ∧ R (Itc i c n) H1) : iRng3 ta σ H R := h
theorem r_itL {tl : TE} {R : It → Hp → Prop} (h : tl σ H fun x H1 => ∃ a, x = .ref a ∧ (∃ xs, SqL K H1 a xs) ∧ R (Itl K a) H1) : iList K tl σ H R := h
theorem r_itT {tl : TE} {R : It → Hp → Prop} (h : tl σ H fun x H1 => ∃ a, x = .ref a ∧ (∃ xs, SqT K H1 a xs) ∧ R (Itt K a) H1) : iTup K tl σ H R := h
theorem r_itE {ta : TA} {R : It → Hp → Prop} (h : ta σ H fun vs H1 => ∃ a xs, vs = [.ref a] ∧ SqL K H1 a xs ∧ R (Ite K a) H1) : iEnum K ta σ H R := h
theorem r_itET {ta : TA} {R : It → Hp → Prop} (h : ta σ H fun vs H1 => ∃ a xs, vs = [.ref a] ∧ SqT K H1 a xs ∧ R (Itet K a xs) H1) : iEnumT K ta σ H R := h
theorem r_eqB {i j : Bool} (h : Q (.bl (decide (i = j))) H) : rEq (.bl i) (.bl j) H Q := by
  have e : decide (V.bl i = V.bl j) = decide (i = j) := by simp
  exact ⟨rfl, by rw [e]; exact h⟩
theorem r_neB {i j : Bool} (h : Q (.bl (!decide (i = j))) H) : rNe (.bl i) (.bl j) H Q := by
  have e : decide (V.bl i = V.bl j) = decide (i = j) := by simp
  exact ⟨rfl, by rw [e]; exact h⟩
end
/-- an if whose test is known -/
theorem r_ifB {σ : St} {H : Hp} {D : Ends} {tt : TT} {t u : TS} (b : Bool) (ht : ∀ R : Bool → Hp → Prop, R b H → tt σ H R) (h : if b = true then t D σ H else u D σ H) : tIfS tt t u D σ H := ht _ h

/-! ### an attribute as a target among others -/
section
variable {X : Cx} {o : Expr} {ta : TE} {f : Str} {pos : Pos}
def gFld (K : PySem.W.Frag) (ta : TE) (f : Str) : TG := fun v σ H R => ta σ H fun x H1 => ∃ a C dx fs, x = .ref a ∧ H1 a = some (.ins C dx fs) ∧ Cls K C ∧ NoAttr K C f ∧ fs.length < 1000 ∧ R σ (upd H1 a (.ins C dx (putF f v fs)))
theorem pg_fld (ha : PE X o ta) : PG X (.Attribute o f pos) (gFld X.K ta f) := by
  refine ⟨fun pins s σ H v u Q I r h => ?_⟩
  rw [assign_Attribute]
  refine wpAny_bind (wpAny_holding (thn (ha.run pins s σ H _ I h) fun ov s2 ⟨x, H2, I2, rx, a, C, dx, fs, ex, ea, c, n, l, q2⟩ => ?_))
  subst ex
  obtain rfl : ov = Value.ref a := rx
  refine wpAny_bind (wpAny_standAt (wpAny_bind (wpAny_holding ?_)))
  exact setattr_ok I2 ea c n l r fun s3 I3 => wpAny_release ⟨σ, _, I3, q2⟩
end

local macro_rules | `(tactic| walk_at "rv") => `(tactic| ((with_reducible apply r_var); (· rfl)))
local macro_rules | `(tactic| walk_at "rd1") => `(tactic| first
  | (with_reducible refine r_seq ?_)
  | (with_reducible refine r_asg ?_)
  | (with_reducible refine r_name ?_)
  | ((with_reducible apply r_var); (· rfl))
  | (with_reducible refine r_c ?_)
  | (with_reducible refine r_op ?_)
  | (with_reducible refine r_I0 ?_)
  | (with_reducible refine r_eqI ?_)
  | (with_reducible refine r_neI ?_)
  | (with_reducible refine r_eqS ?_)
  | (with_reducible refine r_neS ?_)
  | (with_reducible refine r_cons ?_)
  | (with_reducible refine r_nil ?_)
  | (with_reducible refine r_if ?_)
  | (with_reducible refine r_test ?_)
  | (with_reducible refine r_B ?_)
  | (with_reducible refine r_bl ?_)
  | (with_reducible refine r_ret ?_)
  | (with_reducible refine r_drop ?_)
  | (with_reducible refine r_un ?_)
  | (with_reducible refine r_U ?_)
  | (with_reducible refine r_CB ?_)
  | (with_reducible refine r_call ?_)
  | (with_reducible refine r_retN ?_)
  | (with_reducible refine r_next ?_)
  | (with_reducible refine r_brk ?_)
  | (with_reducible refine r_ifE ?_)
  | (with_reducible refine r_and ?_)
  | (with_reducible refine r_or ?_)
  | (with_reducible refine r_not ?_)
  | (with_reducible refine r_andV ?_)
  | (with_reducible refine r_orV ?_)
  | (with_reducible refine r_notV ?_)
  | (with_reducible refine r_chain ?_)
  | (with_reducible refine r_iteF ?_)
  | (with_reducible refine r_iteT ?_)
  | (with_reducible refine r_iteNT ?_)
  | (with_reducible refine r_iteNF ?_)
  | ((with_reducible apply r_I); (· first | decide | exact ⟨by decide, by decide⟩ | exact .inr ⟨by decide, by decide⟩ | exact .inl ⟨by decide, by decide⟩ | exact ⟨by decide, by decide, by decide⟩))
  | (with_reducible refine r_bm ?_)
  | (with_reducible refine r_bm0 ?_)
  | (with_reducible refine r_sub ?_)
  | (with_reducible refine r_yes ?_)
  | (with_reducible refine r_fld ?_)
  | (with_reducible refine r_sfld ?_)
  | (with_reducible refine r_meth ?_)
  | (with_reducible refine r_prop ?_)
  | (with_reducible refine r_make ?_)
  | (with_reducible refine r_gcons ?_)
  | (with_reducible refine r_gnil ?_)
  | (with_reducible refine r_rfl ?_)
  | (with_reducible refine r_for ?_)
  | (with_reducible refine r_rng1 ?_)
  | (with_reducible refine r_int1 ?_)
  | (with_reducible refine r_abs ?_)
  | (with_reducible refine r_tup ?_)
  | (with_reducible refine r_lst ?_))
local macro_rules | `(tactic| walk_at "rd") => `(tactic| repeat (walk_at "rd1"))
local macro_rules | `(tactic| walk_at "ri1") => `(tactic| first
  | (with_reducible refine r_seq ?_)
  | (with_reducible refine r_asg ?_)
  | (with_reducible refine r_name ?_)
  | ((with_reducible apply r_var); (· rfl))
  | (with_reducible refine r_c ?_)
  | (with_reducible refine r_op ?_)
  | (with_reducible refine r_I0 ?_)
  | (with_reducible refine r_eqI ?_)
  | (with_reducible refine r_neI ?_)
  | (with_reducible refine r_eqS ?_)
  | (with_reducible refine r_neS ?_)
  | (with_reducible refine r_cons ?_)
  | (with_reducible refine r_nil ?_)
  | (with_reducible refine r_test ?_)
  | (with_reducible refine r_B ?_)
  | (with_reducible refine r_bl ?_)
  | (with_reducible refine r_ret ?_)
  | (with_reducible refine r_drop ?_)
  | (with_reducible refine r_un ?_)
  | (with_reducible refine r_U ?_)
  | (with_reducible refine r_CB ?_)
  | (with_reducible refine r_call ?_)
  | (with_reducible refine r_retN ?_)
  | (with_reducible refine r_next ?_)
  | (with_reducible refine r_brk ?_)
  | (with_reducible refine r_ifE ?_)
  | (with_reducible refine r_and ?_)
  | (with_reducible refine r_or ?_)
  | (with_reducible refine r_not ?_)
  | (with_reducible refine r_andV ?_)
  | (with_reducible refine r_orV ?_)
  | (with_reducible refine r_notV ?_)
  | (with_reducible refine r_chain ?_)
  | (with_reducible refine r_iteF ?_)
  | (with_reducible refine r_iteT ?_)
  | (with_reducible refine r_iteNT ?_)
  | (with_reducible refine r_iteNF ?_)
  | ((with_reducible apply r_I); (· first | decide | exact ⟨by decide, by decide⟩ | exact .inr ⟨by decide, by decide⟩ | exact .inl ⟨by decide, by decide⟩ | exact ⟨by decide, by decide, by decide⟩))
  | (with_reducible refine r_bm ?_)
  | (with_reducible refine r_bm0 ?_)
  | (with_reducible refine r_sub ?_)
  | (with_reducible refine r_yes ?_)
  | (with_reducible refine r_fld ?_)
  | (with_reducible refine r_sfld ?_)
  | (with_reducible refine r_meth ?_)
  | (with_reducible refine r_prop ?_)
  | (with_reducible refine r_make ?_)
  | (with_reducible refine r_gcons ?_)
  | (with_reducible refine r_gnil ?_)
  | (with_reducible refine r_rfl ?_)
  | (with_reducible refine r_for ?_)
  | (with_reducible refine r_rng1 ?_)
  | (with_reducible refine r_int1 ?_)
  | (with_reducible refine r_abs ?_)
  | (with_reducible refine r_tup ?_)
  | (with_reducible refine r_lst ?_))
local macro_rules | `(tactic| walk_at "ri") => `(tactic| repeat (walk_at "ri1"))

structure Nm (w : World) (K : Frg) (mg : Str → Option Value) : Prop where
  tuple : mg "tuple" = none
  isinstance : mg "isinstance" = none
  len : mg "len" = none
  str : mg "str" = none
  all : mg "all" = none
  int : mg "int" = none
  bool : mg "bool" = none
  abs : mg "abs" = none
  range : mg "range" = none
  sorted : mg "sorted" = none
  list : mg "list" = none
  g_DEEPEST : ∃ u, mg "DEEPEST" = some u ∧ RelV (.int 24) u
  g_LENGTHS : ∃ v u, mg "LENGTHS" = some u ∧ RelV v u ∧ ∃ a, v = .ref a ∧ TabAt K w a (([.inr "null", .inr "truth", .inr "number", .inr "bytes", .inr "text", .inr "list", .inr "map"] : List Key).zip ([.int 1, .int 2, .int 3, .int 2, .int 2, .int 2, .int 2] : List V))
  dig : DigK K

/-! ### numbers by powers of ten -/
theorem pow_bits {b : Int} (hb : b.natAbs < 16) (c : Nat) : (b ^ c).natAbs < 2 ^ (4 * c + 1) := by
  rw [Int.natAbs_pow]
  have h1 : b.natAbs ^ c ≤ 16 ^ c := Nat.pow_le_pow_left (by omega) c
  have h2 : (16 : Nat) ^ c = 2 ^ (4 * c) := by
    rw [Nat.pow_mul]
  have h3 : (2 : Nat) ^ (4 * c) < 2 ^ (4 * c + 1) := Nat.pow_lt_pow_right (by decide) (by omega)
  omega
theorem bits10 (n : Nat) : (10 : Int) ^ n < 2 ^ (4 * n + 1) := by
  have h := pow_bits (b := 10) (by decide) n
  have e : ((10 : Int) ^ n).natAbs = 10 ^ n := by rw [Int.natAbs_pow]; rfl
  rw [e] at h
  have h2 : ((10 ^ n : Nat) : Int) < ((2 ^ (4 * n + 1) : Nat) : Int) := Int.ofNat_lt.mpr h
  rw [Int.natCast_pow, Int.natCast_pow] at h2
  exact h2
theorem abs10 {x : Int} {n : Nat} (h : x.natAbs < 10 ^ n) : x.natAbs < 2 ^ (4 * n + 1) := by
  have h1 := pow_bits (b := 10) (by decide) n
  have e : ((10 : Int) ^ n).natAbs = 10 ^ n := by rw [Int.natAbs_pow]; rfl
  rw [e] at h1
  omega
theorem abs_mul10 {x y : Int} {a b : Nat} (h1 : x.natAbs < 10 ^ a) (h2 : y.natAbs < 10 ^ b) : (x * y).natAbs < 10 ^ (a + b) := by
  rw [Int.natAbs_mul, Nat.pow_add]
  exact Nat.mul_lt_mul'' h1 h2
theorem natAbs10 (n : Nat) : ((10 : Int) ^ n).natAbs = 10 ^ n := by rw [Int.natAbs_pow]; rfl
theorem pow10_le {a b : Nat} (h : a ≤ b) : (10 : Nat) ^ a ≤ 10 ^ b := Nat.pow_le_pow_right (by decide) h
def sp_law (K : PySem.W.Frag) : Sp := sp1 fun a H Q _ => ∃ (sl : Addr) (ns : List Int), a = .ref sl ∧ SqL K H sl (ns.map V.int) ∧ ∀ H', Q (.bl true) H'

/-! ### the law's state: a list of drawn numbers, its place, and the script; every draw is any number below its bound -/
structure SC where
  a : Addr
  nl : Addr
  sl : Addr
  nums : List Int
  ns : List Int
structure LS (K : PySem.W.Frag) (S : SC) (H : Hp) : Prop where
  st : ∃ k l f : Int, H S.a = some (.lst [.ref S.nl, .int k, .int l, .ref S.sl, .int f])
  nm : H S.nl = some (.lst (S.nums.map V.int))
  len : S.nums.length = 120
  ne : S.nl ≠ S.a
  scr : SqL K H S.sl (S.ns.map V.int)
/-- all but the state's own list stays -/
def Keep (S : SC) (H H' : Hp) : Prop := ∀ b o, b ≠ S.a → H b = some o → H' b = some o
theorem Keep.refl (S : SC) (H : Hp) : Keep S H H := fun _ _ _ h => h
theorem Keep.trans {S : SC} {H H1 H2 : Hp} (a : Keep S H H1) (b : Keep S H1 H2) : Keep S H H2 := fun c o n h => b c o n (a c o n h)
theorem Keep.of {S : SC} {H H' : Hp} (h : Same H H') : Keep S H H' := fun b o _ q => h b o q
section
variable {K : PySem.W.Frag} {S : SC} {H H' : Hp}
theorem LS.same (L : LS K S H) (h : Same H H') : LS K S H' := by
  obtain ⟨⟨k, l, f, e⟩, h2, h3, h4, h5⟩ := L
  exact ⟨⟨k, l, f, h _ _ e⟩, h _ _ h2, h3, h4, h.seq h5⟩
theorem LS.new (L : LS K S H) {p : Addr} (h : H p = none) (o : HO) : LS K S (upd H p o) := L.same (same_upd h o)
theorem LS.put (L : LS K S H) (k l f : Int) : LS K S (upd H S.a (.lst [.ref S.nl, .int k, .int l, .ref S.sl, .int f])) := by
  obtain ⟨⟨k', l', f', e⟩, h2, h3, h4, h5⟩ := L
  refine ⟨⟨k, l, f, upd_same⟩, (upd_ne h4).trans h2, h3, h4, ?_⟩
  rcases h5 with (h | ⟨o, h⟩) | h
  · refine .inl (.inl ((upd_ne fun q => ?_).trans h))
    rw [q, e] at h
    injection h with h
    injection h with h
    cases hn : S.ns with
    | nil =>
      rw [hn] at h
      cases h
    | cons x r =>
      rw [hn] at h
      cases h
  · refine .inl (.inr ⟨o, (upd_ne fun q => ?_).trans h⟩)
    rw [q, e] at h
    cases h
  · exact .inr h
theorem Keep.put (o : HO) : Keep S H (upd H S.a o) := fun b u n h => (upd_ne n).trans h
/-- an address that is free later was free before -/
theorem Keep.free (h : Keep S H H') (L : LS K S H') {p : Addr} (hp : H' p = none) : H p = none := by
  have n : p ≠ S.a := fun e => by
    obtain ⟨k, l, f, q⟩ := L.st
    rw [e, q] at hp
    cases hp
  cases e : H p with
  | none => rfl
  | some o =>
    rw [h p o n e] at hp
    cases hp
theorem LS.ne_free (L : LS K S H) {p : Addr} (hp : H p = none) : p ≠ S.a := fun e => by
  obtain ⟨k, l, f, q⟩ := L.st
  rw [e, q] at hp
  cases hp
end
abbrev s__law_cell : Stmt := (top 15)
theorem sc__law_cell : FnScope ["script", "k"] ["script", "k"] (defScope s__law_cell) := ⟨rfl, rfl, rfl, by decide +kernel, rfl, by decide +kernel, by decide +kernel⟩
abbrev s__law_numbers : Stmt := (top 16)
theorem sc__law_numbers : FnScope ["cell", "many", "rest", "size", "numbers", "k", "mixed"] ["cell", "many"] (defScope s__law_numbers) := ⟨rfl, rfl, rfl, by decide +kernel, rfl, by decide +kernel, by decide +kernel⟩
abbrev s__law_state : Stmt := (top 17)
theorem sc__law_state : FnScope ["script", "left", "numbers", "k", "parted"] ["script", "left"] (defScope s__law_state) := ⟨rfl, rfl, rfl, by decide +kernel, rfl, by decide +kernel, by decide +kernel⟩
abbrev s__law_next : Stmt := (top 18)
theorem sc__law_next : FnScope ["state", "many", "at"] ["state", "many"] (defScope s__law_next) := ⟨rfl, rfl, rfl, by decide +kernel, rfl, by decide +kernel, by decide +kernel⟩
abbrev s__law_big : Stmt := (top 19)
theorem sc__law_big : FnScope ["state", "many", "cell"] ["state", "many"] (defScope s__law_big) := ⟨rfl, rfl, rfl, by decide +kernel, rfl, by decide +kernel, by decide +kernel⟩
def sp__law_cell (K : PySem.W.Frag) : Sp := sp2 fun a b H Q _ => ∃ (sl : Addr) (ns : List Int) (k : Int), a = .ref sl ∧ b = .int k ∧ SqL K H sl (ns.map V.int) ∧ 0 ≤ k ∧ ∀ z : Int, Q (.int z) H
def sp__law_numbers : Sp := sp2 fun a b H Q _ => ∃ (z : Int) (n : Nat), a = .int z ∧ b = .int (n : Int) ∧ n ≤ 1000 ∧ ∀ (p : Addr) (xs : List Int), H p = none → xs.length = n → Q (.ref p) (upd H p (.lst (xs.map V.int)))
def sp__law_state (K : PySem.W.Frag) : Sp := sp2 fun a b H Q _ => ∃ (sl : Addr) (ns : List Int) (l : Int), a = .ref sl ∧ b = .int l ∧ SqL K H sl (ns.map V.int) ∧
  ∀ (S : SC) (H' : Hp), S.sl = sl → S.ns = ns → LS K S H' → Same H H' → H S.a = none → Q (.ref S.a) H'
def sp__law_next (K : PySem.W.Frag) : Sp := sp2 fun a b H Q _ => ∃ (S : SC) (m : Int), a = .ref S.a ∧ b = .int m ∧ 0 < m ∧ LS K S H ∧ ∀ (r : Int) (H' : Hp), 0 ≤ r → r < m → LS K S H' → Keep S H H' → Q (.int r) H'
def sp__law_big (K : PySem.W.Frag) : Sp := sp__law_next K
section
variable {P : Program} {w : World} {K : PySem.W.Frag} {mg : Str → Option Value} {base : Heap} {f : Addr} {fd : FuncData}
theorem ok__law_cell (F : FunD K "_law_cell" "_law_cell" (defArgs s__law_cell) (defBody s__law_cell) (defScope s__law_cell) [] [] (glAd "_law_cell" K) fd) (m : mg "_law_cell" = some (.ref (glAd "_law_cell" K))) (nb : Nm w K mg) : Cal P w K mg base 1 "_law_cell" (sp__law_cell K) [] := by
  refine calD F m sc__law_cell (fun _ _ _ _ _ _ us hl => match us, hl with | [_, _], _ => rfl) len2 (fun cdv A outer s H vs Q E hr h => ⟨_, (pss_cons (ps_if (pt_cmpR op_lt (pv 1) (pe_callB call_len_seq (by rfl) nb.len PySem.boot_len (pa_cons (pv 0) pa_nil)) (nomark _))
    (pss_one (ps_ret (pe_ix ix_list (pv 0) (pv 1) (fun _ _ => rfl))))
    pss_nil)
    (pss_one (ps_ret pe_int))), ?_⟩)
  obtain ⟨_, _, rfl, sl, ns, k, rfl, rfl, hs, h0, h⟩ := h
  walk_at "rd"
  refine ⟨_, _, rfl, .inl hs, ?_⟩
  walk_at "rd"
  refine r_ite (fun c => ?_) (fun c => ?_)
  · rw [List.length_map] at c
    obtain ⟨v, _, e⟩ := atI_ints h0 c
    walk_at "rd"
    exact r_ixL hs e (h v)
  · walk_at "rd"
    exact h 0
theorem ok__law_numbers (F : FunD K "_law_numbers" "_law_numbers" (defArgs s__law_numbers) (defBody s__law_numbers) (defScope s__law_numbers) [] [] (glAd "_law_numbers" K) fd) (m : mg "_law_numbers" = some (.ref (glAd "_law_numbers" K))) (nb : Nm w K mg) : Cal P w K mg base 1 "_law_numbers" sp__law_numbers [] := by
  refine calD F m sc__law_numbers (fun _ _ _ _ _ _ us hl => match us, hl with | [_, _], _ => rfl) len2 (fun cdv A outer s H vs Q E hr h => ⟨_, (pss_cons (ps_set (i := 2) sc__law_numbers.nd rfl (Or.inl rfl) (pe_callB call_abs (by rfl) nb.abs (by decide +kernel) (pa_cons (pv 0) pa_nil)))
    (pss_cons (ps_set (i := 3) sc__law_numbers.nd rfl (Or.inl rfl) (pv 2))
    (pss_cons (ps_set (i := 4) sc__law_numbers.nd rfl (Or.inl rfl) (pe_lst pa_nil))
    (pss_cons (ps_for PassesOwn.never rfl (pi_range1 rfl nb.range (pa_cons (pv 1) pa_nil)) (pg_name (i := 5) sc__law_numbers.nd rfl (Or.inl rfl))
    (pss_one (ps_if (PW.pt (pw_and (pt_cmpR op_ge (pv 3) (pe_op op_pow pe_int pe_int) (nomark _)) (pw_and1 (pt_cmpR op_gt (pv 2) pe_int (nomark _)))))
    (pss_cons (ps_expr (pe_bm PySem.F.plainAttrs_list PySem.F.slot_list_append PySem.F.type_list_append mt_append (pv 4) (pa_cons (pe_op op_mod (pe_callTy call_int1 (by rfl) nb.int (by decide +kernel) (pa_cons (pv 2) pa_nil)) pe_int) pa_nil)))
    (pss_one (ps_set (i := 2) sc__law_numbers.nd rfl (Or.inl rfl) (pe_op op_fdiv (pv 2) pe_int))))
    (pss_cons (ps_set (i := 6) sc__law_numbers.nd rfl (Or.inl rfl) (pe_op op_mod (pe_callTy call_int1 (by rfl) nb.int (by decide +kernel) (pa_cons (pe_op op_add (pe_op op_add (pe_op op_mul (pv 3) pe_int) (pe_op op_mul (pv 5) pe_int)) pe_int) pa_nil)) pe_int))
    (pss_cons (ps_set (i := 6) sc__law_numbers.nd rfl (Or.inl rfl) (pe_op op_mod (pe_callTy call_int1 (by rfl) nb.int (by decide +kernel) (pa_cons (pe_op op_add (pe_op op_add (pe_op op_mul (pv 6) (pv 6)) (pe_op op_mul pe_int (pv 5))) pe_int) pa_nil)) pe_int))
    (pss_one (ps_expr (pe_bm PySem.F.plainAttrs_list PySem.F.slot_list_append PySem.F.type_list_append mt_append (pv 4) (pa_cons (pe_op op_mod (pe_callTy call_int1 (by rfl) nb.int (by decide +kernel) (pa_cons (pe_op op_fdiv (pv 6) pe_int) pa_nil)) pe_int) pa_nil)))))))))
    (pss_one (ps_ret (pv 4))))))), ?_⟩)
  obtain ⟨_, _, rfl, z, n, rfl, rfl, hn, h⟩ := h
  walk_at "rd"
  refine ⟨Nat.zero_le _, fun p hp => ?_⟩
  walk_at "rd"
  refine r_turns (by omega) (by omega) (fun i σ H' => ∃ (rest size : Int) (xs : List Int) (k mx : Option V), σ = [some (.int z), some (.int (n : Int)), some (.int rest), some (.int size), some (.ref p), k, mx] ∧ xs.length = i ∧ H' = upd H p (.lst (xs.map V.int))) ⟨_, _, [], none, none, rfl, rfl, rfl⟩ ?_ ?_
  · rintro i σ _ hi ⟨rest, size, xs, k, mx, rfl, hl, rfl⟩
    have hsz : (xs.map V.int).length < sizeLine := small1000 (by rw [List.length_map]; omega)
    have app : ∀ y : Int, upd (upd H p (.lst (xs.map V.int))) p (.lst (xs.map V.int ++ [.int y])) = upd H p (.lst ((xs ++ [y]).map V.int)) := fun y => by
      rw [upd_upd, List.map_append]
      rfl
    have two : ∀ r : Int, ∀ (σ' : St) (k mx : Option V) (rest size : Int), σ' = [some (.int z), some (.int (n : Int)), some (.int rest), some (.int size), some (.ref p), k, mx] → ∃ (rest size : Int) (xs' : List Int) (k mx : Option V), σ' = [some (.int z), some (.int (n : Int)), some (.int rest), some (.int size), some (.ref p), k, mx] ∧ xs'.length = i + 1 ∧ upd (upd H p (.lst (xs.map V.int))) p (.lst (xs.map V.int ++ [.int r])) = upd H p (.lst (xs'.map V.int)) := fun r σ' k mx rest size e =>
      ⟨rest, size, xs ++ [r], k, mx, e, by rw [List.length_append, hl]; rfl, app r⟩
    walk_at "rd"
    refine r_ite (fun c1 => ?_) (fun c1 => ?_)
    · walk_at "rd"
      refine r_ite (fun c2 => ?_) (fun c2 => ?_)
      · walk_at "rd"
        refine ⟨tyL upd_same, ?_⟩
        walk_at "rd"
        refine r_app upd_same hsz ?_
        walk_at "rd"
        exact two _ _ _ _ _ _ rfl
      · walk_at "rd"
        refine r_I (.inl ⟨by omega, by omega⟩) ?_
        walk_at "rd"
        refine ⟨tyL upd_same, ?_⟩
        walk_at "rd"
        refine r_app upd_same hsz ?_
        walk_at "rd"
        exact two _ _ _ _ _ _ rfl
    · walk_at "rd"
      refine r_I (.inl ⟨by omega, by omega⟩) ?_
      walk_at "rd"
      refine ⟨tyL upd_same, ?_⟩
      walk_at "rd"
      refine r_app upd_same hsz ?_
      walk_at "rd"
      exact two _ _ _ _ _ _ rfl
  · rintro σ _ ⟨rest, size, xs, k, mx, rfl, hl, rfl⟩
    walk_at "rd"
    exact h p xs hp (by omega)
theorem ok__law_next (F : FunD K "_law_next" "_law_next" (defArgs s__law_next) (defBody s__law_next) (defScope s__law_next) [] [] (glAd "_law_next" K) fd) (m : mg "_law_next" = some (.ref (glAd "_law_next" K))) (nb : Nm w K mg) : Cal P w K mg base 1 "_law_next" (sp__law_next K) [] := by
  refine calD F m sc__law_next (fun _ _ _ _ _ _ us hl => match us, hl with | [_, _], _ => rfl) len2 (fun cdv A outer s H vs Q E hr h => ⟨_, (pss_cons (ps_set (i := 2) sc__law_next.nd rfl (Or.inl rfl) (pe_ix ix_list (pv 0) pe_int (fun _ _ => rfl)))
    (pss_cons (ps_asg (pe_op op_add (pv 2) pe_int) (pg_sub (pv 0) pe_int set_list))
    (pss_one (ps_ret (pe_op op_mod (pe_callTy call_int1 (by rfl) nb.int (by decide +kernel) (pa_cons (pe_op op_add (pe_ix ix_list (pe_ix ix_list (pv 0) pe_int (fun _ _ => rfl)) (pe_op op_mod (pv 2) pe_int) (fun _ _ => rfl)) (pe_op op_mul pe_int (pe_op op_fdiv (pv 2) pe_int))) pa_nil)) (pv 1)))))), ?_⟩)
  obtain ⟨_, _, rfl, S, mm, rfl, rfl, h0, L, h⟩ := h
  obtain ⟨k, l, f5, e⟩ := L.st
  walk_at "rd"
  refine r_ixL (SqL.of e) rfl ?_
  walk_at "rd"
  refine r_setL e rfl ?_
  walk_at "rd"
  have L2 := L.put (k + 1) l f5
  obtain ⟨v, _, ev⟩ := atI_ints (ns := S.nums) (k := k % 120) (by omega) (by rw [L.len]; omega)
  refine r_ixL (SqL.of upd_same) rfl ?_
  walk_at "rd"
  refine r_ixL (SqL.of L2.nm) ev ?_
  walk_at "rd"
  refine r_I h0 ?_
  exact h _ _ (Int.emod_nonneg _ (by omega)) (Int.emod_lt_of_pos _ h0) L2 (Keep.put _)
theorem ok__law_big (F : FunD K "_law_big" "_law_big" (defArgs s__law_big) (defBody s__law_big) (defScope s__law_big) [] [] (glAd "_law_big" K) fd) (m : mg "_law_big" = some (.ref (glAd "_law_big" K))) (nb : Nm w K mg) (c__law_cell : Cal P w K mg base 1 "_law_cell" (sp__law_cell K) []) (c__law_next : Cal P w K mg base 1 "_law_next" (sp__law_next K) []) : Cal P w K mg base 2 "_law_big" (sp__law_big K) [] := by
  refine calD F m sc__law_big (fun _ _ _ _ _ _ us hl => match us, hl with | [_, _], _ => rfl) len2 (fun cdv A outer s H vs Q E hr h => ⟨_, (pss_cons (ps_set (i := 2) sc__law_big.nd rfl (Or.inl rfl) (pe_callB call_abs (by rfl) nb.abs (by decide +kernel) (pa_cons (pe_c c__law_cell hr (by decide) rfl (pa_cons (pe_ix ix_list (pv 0) pe_int (fun _ _ => rfl)) (pa_cons (pe_op op_add pe_int (pe_c c__law_next hr (by decide) rfl (pa_cons (pv 0) (pa_cons pe_int pa_nil)))) pa_nil))) pa_nil)))
    (pss_one (ps_ret (pe_op op_mod (pe_callTy call_int1 (by rfl) nb.int (by decide +kernel) (pa_cons (pe_op op_add (pe_op op_mul (pv 2) pe_int) (pe_c c__law_next hr (by decide) rfl (pa_cons (pv 0) (pa_cons pe_int pa_nil)))) pa_nil)) (pv 1))))), ?_⟩)
  obtain ⟨_, _, rfl, S, mm, rfl, rfl, h0, L, h⟩ := h
  obtain ⟨k, l, f5, e⟩ := L.st
  walk_at "rd"
  refine r_ixL (SqL.of e) rfl ?_
  walk_at "rd"
  refine ⟨_, _, rfl, S, _, rfl, rfl, by decide, L, fun r1 H1 a1 b1 L1 K1 => ?_⟩
  walk_at "rd"
  refine ⟨_, _, rfl, S.sl, S.ns, _, rfl, rfl, L1.scr, by omega, fun z => ?_⟩
  walk_at "rd"
  refine ⟨_, _, rfl, S, _, rfl, rfl, by decide, L1, fun r2 H2 a2 b2 L2 K2 => ?_⟩
  walk_at "rd"
  refine r_I h0 ?_
  exact h _ _ (Int.emod_nonneg _ (by omega)) (Int.emod_lt_of_pos _ h0) L2 (K1.trans K2)
theorem ok__law_state (F : FunD K "_law_state" "_law_state" (defArgs s__law_state) (defBody s__law_state) (defScope s__law_state) [] [] (glAd "_law_state" K) fd) (m : mg "_law_state" = some (.ref (glAd "_law_state" K))) (nb : Nm w K mg) (c__law_cell : Cal P w K mg base 1 "_law_cell" (sp__law_cell K) []) (c__law_numbers : Cal P w K mg base 1 "_law_numbers" sp__law_numbers []) : Cal P w K mg base 2 "_law_state" (sp__law_state K) [] := by
  refine calD F m sc__law_state (fun _ _ _ _ _ _ us hl => match us, hl with | [_, _], _ => rfl) len2 (fun cdv A outer s H vs Q E hr h => ⟨_, (pss_cons (ps_set (i := 2) sc__law_state.nd rfl (Or.inl rfl) (pe_lst pa_nil))
    (pss_cons (ps_setLc (i := 4) (own := [("k", 3)]) (g := gName 3) (tt := tYes) rfl sc__law_state.nd rfl rfl (sw_true rfl rfl rfl (by decide +kernel)) (pi_range1 rfl nb.range (pa_cons pe_int pa_nil)) (blkOk_by (N := ["script", "left", "numbers", "k", "parted"]) (sc := defScope s__law_state) (by decide +kernel)) (fun _ _ _ _ _ => pg_name (i := 3) sc__law_state.nd rfl (Or.inl rfl)) (fun _ _ _ _ _ => pts_nil) (fun _ _ _ _ _ => (pe_c c__law_numbers hr (by decide) rfl (pa_cons (pe_c c__law_cell hr (by decide) rfl (pa_cons (pv 0) (pa_cons (pv 3) pa_nil))) (pa_cons pe_int pa_nil)))))
    (pss_cons (ps_for PassesOwn.never rfl (pi_range1 rfl nb.range (pa_cons pe_int pa_nil)) (pg_name (i := 3) sc__law_state.nd rfl (Or.inl rfl))
    (pss_cons (ps_expr (pe_bm PySem.F.plainAttrs_list PySem.F.slot_list_append PySem.F.type_list_append mt_append (pv 2) (pa_cons (pe_ix ix_list (pe_ix ix_list (pv 4) pe_int (fun _ _ => rfl)) (pv 3) (fun _ _ => rfl)) pa_nil)))
    (pss_cons (ps_expr (pe_bm PySem.F.plainAttrs_list PySem.F.slot_list_append PySem.F.type_list_append mt_append (pv 2) (pa_cons (pe_ix ix_list (pe_ix ix_list (pv 4) pe_int (fun _ _ => rfl)) (pv 3) (fun _ _ => rfl)) pa_nil)))
    (pss_one (ps_expr (pe_bm PySem.F.plainAttrs_list PySem.F.slot_list_append PySem.F.type_list_append mt_append (pv 2) (pa_cons (pe_ix ix_list (pe_ix ix_list (pv 4) pe_int (fun _ _ => rfl)) (pv 3) (fun _ _ => rfl)) pa_nil)))))))
    (pss_one (ps_ret (pe_lst (pa_cons (pv 2) (pa_cons pe_int (pa_cons (pv 1) (pa_cons (pv 0) (pa_cons pe_int pa_nil))))))))))), ?_⟩)
  obtain ⟨_, _, rfl, sl, ns, l, rfl, rfl, hs, h⟩ := h
  walk_at "rd"
  refine ⟨Nat.zero_le _, fun p hp => ?_⟩
  walk_at "rd"
  refine r_lcR 3 (by decide) (fun D hD => ?_) (fun R hR => hR)
  have sp0 := same_upd hp (.lst [])
  have pD : p ≠ D := fun e => by
    rw [← e, upd_same] at hD
    cases hD
  refine lc_range (fun i H' => ∃ ps : List Addr, H' D = some (.lst (ps.map V.ref)) ∧ ps.length = i ∧ (∀ q ∈ ps, q ≠ D ∧ ∃ xs : List Int, H' q = some (.lst (xs.map V.int)) ∧ xs.length = 40) ∧ Same (upd H p (.lst [])) H') ⟨[], upd_same, rfl, fun q hq => (by cases hq), same_upd hD _⟩ ?_ ?_
  · rintro i H' hi ⟨ps, e1, e2, e3, e4⟩
    walk_at "rd"
    refine ⟨rfl, ?_⟩
    walk_at "rd"
    have hs' : SqL K H' sl (ns.map V.int) := e4.seq (sp0.seq hs)
    refine ⟨_, _, rfl, sl, ns, _, rfl, rfl, hs', by omega, fun z => ?_⟩
    walk_at "rd"
    refine ⟨_, _, rfl, z, 40, rfl, rfl, by decide, fun q xs hq hx => ?_⟩
    have Dq : D ≠ q := ne_of_none e1 hq
    refine ⟨_, (upd_ne Dq).trans e1, small1000 (by rw [List.length_map]; omega), ps ++ [q], ?_, by rw [List.length_append, e2]; rfl, ?_, ?_⟩
    · rw [upd_same, List.map_append]
      rfl
    · intro q' hq'
      rcases List.mem_append.mp hq' with h1 | h1
      · obtain ⟨n1, xs', x1, x2⟩ := e3 q' h1
        exact ⟨n1, xs', by rw [upd_ne n1, upd_ne (ne_of_none x1 hq)]; exact x1, x2⟩
      · have e5 : q' = q := by simpa using h1
        subst e5
        exact ⟨Ne.symm Dq, xs, by rw [upd_ne (Ne.symm Dq), upd_same], hx⟩
    · intro b o hb
      have hb2 := e4 b o hb
      rw [upd_ne (ne_of_none hb hD), upd_ne (ne_of_none hb2 hq)]
      exact hb2
  · rintro H' ⟨ps, e1, e2, e3, e4⟩
    walk_at "rd"
    obtain ⟨p0, p1, p2, rfl⟩ : ∃ p0 p1 p2, ps = [p0, p1, p2] := match ps, e2 with | [a, b, c], _ => ⟨a, b, c, rfl⟩
    obtain ⟨_, x0, y0, z0⟩ := e3 p0 (by simp)
    obtain ⟨_, x1, y1, z1⟩ := e3 p1 (by simp)
    obtain ⟨_, x2, y2, z2⟩ := e3 p2 (by simp)
    have hp' : H' p = some (.lst []) := e4 _ _ upd_same
    have ne0 : ∀ {q : Addr} {xs : List Int}, H' q = some (.lst (xs.map V.int)) → xs.length = 40 → q ≠ p := fun {q xs} h1 h2 h3 => by
      rw [h3, hp'] at h1
      injection h1 with h1
      injection h1 with h1
      have h4 := congrArg List.length h1
      rw [List.length_map, h2] at h4
      cases h4
    have n0 := ne0 y0 z0
    have n1 := ne0 y1 z1
    have n2 := ne0 y2 z2
    have nD : D ≠ p := Ne.symm pD
    have fit : ∀ (xs : List Int) (i : Nat), xs.length = 40 → (i : Int) < 40 → ∃ v, atI (xs.map V.int) (i : Int) = some (.int v) := fun xs i h1 h2 => by
      obtain ⟨v, _, e⟩ := atI_ints (ns := xs) (k := (i : Int)) (by omega) (by omega)
      exact ⟨v, e⟩
    refine r_turns (by decide) (by decide) (fun i σ H2 => ∃ (zs : List Int) (kk : Option V), σ = [some (.ref sl), some (.int l), some (.ref p), kk, some (.ref D)] ∧ zs.length = 3 * i ∧ H2 = upd H' p (.lst (zs.map V.int))) ⟨[], none, rfl, rfl, ?_⟩ ?_ ?_
    · funext b
      by_cases c : b = p
      · subst c
        rw [upd_same, hp']
        rfl
      · rw [upd_ne c]
    · rintro i σ _ hi ⟨zs, kk, rfl, hz, rfl⟩
      obtain ⟨v0, a0⟩ := fit x0 i z0 hi
      obtain ⟨v1, a1⟩ := fit x1 i z1 hi
      obtain ⟨v2, a2⟩ := fit x2 i z2 hi
      walk_at "rd"
      refine ⟨tyL upd_same, ?_⟩
      walk_at "rd"
      refine r_ixL (SqL.of ((upd_ne nD).trans e1)) rfl ?_
      walk_at "rd"
      refine r_ixL (SqL.of ((upd_ne n0).trans y0)) a0 ?_
      walk_at "rd"
      refine r_app upd_same (small1000 (by rw [List.length_map]; omega)) ?_
      rw [upd_upd]
      walk_at "rd"
      refine ⟨tyL upd_same, ?_⟩
      walk_at "rd"
      refine r_ixL (SqL.of ((upd_ne nD).trans e1)) rfl ?_
      walk_at "rd"
      refine r_ixL (SqL.of ((upd_ne n1).trans y1)) a1 ?_
      walk_at "rd"
      refine r_app upd_same (small1000 (by rw [List.length_append, List.length_map]; show zs.length + 1 ≤ 1000; omega)) ?_
      rw [upd_upd]
      walk_at "rd"
      refine ⟨tyL upd_same, ?_⟩
      walk_at "rd"
      refine r_ixL (SqL.of ((upd_ne nD).trans e1)) rfl ?_
      walk_at "rd"
      refine r_ixL (SqL.of ((upd_ne n2).trans y2)) a2 ?_
      walk_at "rd"
      refine r_app upd_same (small1000 (by rw [List.length_append, List.length_append, List.length_map]; show zs.length + 1 + 1 ≤ 1000; omega)) ?_
      rw [upd_upd]
      exact ⟨zs ++ [v0] ++ [v1] ++ [v2], _, rfl, by simp [hz]; omega, by simp⟩
    · rintro σ _ ⟨zs, kk, rfl, hz, rfl⟩
      walk_at "rd"
      refine ⟨(by show 5 ≤ sizeLine; decide), fun a ha => ?_⟩
      have sa := same_upd ha (.lst [.ref p, .int 0, .int l, .ref sl, .int 3])
      have pa : p ≠ a := ne_of_none upd_same ha
      have all : Same H (upd H' p (.lst (zs.map V.int))) := fun b o hb => by
        rw [upd_ne (ne_of_none hb hp)]
        exact e4 _ _ (sp0 _ _ hb)
      have hsl : SqL K H sl (ns.map V.int) := hs
      refine h ⟨a, p, sl, zs, ns⟩ _ rfl rfl ⟨⟨0, l, 3, upd_same⟩, (upd_ne pa).trans upd_same, by rw [hz]; rfl, pa, sa.seq (all.seq hs)⟩ (all.trans sa) (all.free ha)
end

/-! ### draws -/
section
variable {K : PySem.W.Frag} {S : SC} {σ : St} {H : Hp} {Q : VK} {E : XK}
theorem d_next {m : Int} (L : LS K S H) (hm : 0 < m) (h : ∀ (r : Int) (H' : Hp), 0 ≤ r → r < m → LS K S H' → Keep S H H' → Q (.int r) H') : sp__law_next K ([.ref S.a, .int m] ++ []) H Q E := ⟨_, _, rfl, S, m, rfl, rfl, hm, L, h⟩
/-- a new object -/
theorem d_new {o : HO} {R : Addr → Hp → Prop} {c : Prop} (L : LS K S H) (hc : c) (h : ∀ (p : Addr) (H' : Hp), LS K S H' → Keep S H H' → Same H H' → H p = none → H' p = some o → p ≠ S.a → R p H') : c ∧ ∀ p, H p = none → R p (upd H p o) :=
  ⟨hc, fun p hp => h p _ (L.new hp o) (Keep.of (same_upd hp o)) (same_upd hp o) hp upd_same (L.ne_free hp)⟩
theorem d_newI {zs : List Int} {R : Addr → Hp → Prop} {c : Prop} (L : LS K S H) (hc : c) (h : ∀ (p : Addr) (H' : Hp), LS K S H' → Keep S H H' → Same H H' → H p = none → H' p = some (.lst (zs.map V.int)) → p ≠ S.a → R p H') : c ∧ ∀ p, H p = none → R p (upd H p (.lst (zs.map V.int))) := d_new L hc h
/-- [x, y, ..][_law_next(state, n)] -/
theorem d_pick {xs : List V} {n : Int} {i : Nat} (L : LS K S H) (e : σ[i]? = some (some (.ref S.a))) (hl : xs.length ≤ sizeLine) (hn : 0 < n) (hx : (xs.length : Int) = n)
    (h : ∀ (v : V) (H' : Hp), v ∈ xs → LS K S H' → Keep S H H' → Q v H') :
    xs.length ≤ sizeLine ∧ ∀ p, H p = none → tCall (sp__law_next K) [] E (tCons (tVar i) (tCons (tC (.int n)) tNil)) σ (upd H p (.lst xs)) fun y H2 => rIxL K (.ref p) y H2 Q := by
  refine ⟨hl, fun p hp => ⟨_, e, ?_⟩⟩
  show sp__law_next K ([.ref S.a, .int n] ++ []) (upd H p (.lst xs)) (fun y H2 => rIxL K (.ref p) y H2 Q) E
  refine d_next (L.new hp _) hn fun r H' h0 h1 L' k => ?_
  have hr : r.toNat < xs.length := by omega
  have er : r = ((r.toNat : Nat) : Int) := by omega
  refine ⟨p, xs, r, xs[r.toNat], rfl, rfl, SqL.of (k _ _ (L.ne_free hp) upd_same), ?_, ?_⟩
  · have q := atI_nat (xs := xs) (j := r.toNat) (v := xs[r.toNat]) (List.getElem?_eq_getElem hr)
    rw [← er] at q
    exact q
  · exact h _ _ (List.getElem_mem hr) L' ((Keep.of (same_upd hp _)).trans k)
/-- the same, all of them numbers from lo to hi -/
theorem d_pickI {xs : List V} {n : Int} {i : Nat} (lo hi : Int) (L : LS K S H) (e : σ[i]? = some (some (.ref S.a))) (hl : xs.length ≤ sizeLine) (hn : 0 < n) (hx : (xs.length : Int) = n) (hz : ∀ v ∈ xs, ∃ z, v = V.int z ∧ lo ≤ z ∧ z ≤ hi)
    (h : ∀ (z : Int) (H' : Hp), lo ≤ z → z ≤ hi → V.int z ∈ xs → LS K S H' → Keep S H H' → Q (.int z) H') :
    xs.length ≤ sizeLine ∧ ∀ p, H p = none → tCall (sp__law_next K) [] E (tCons (tVar i) (tCons (tC (.int n)) tNil)) σ (upd H p (.lst xs)) fun y H2 => rIxL K (.ref p) y H2 Q :=
  d_pick L e hl hn hx fun v H' hv L' k => by
    obtain ⟨z, rfl, h1, h2⟩ := hz v hv
    exact h z H' h1 h2 hv L' k
theorem all_nil {p : V → Prop} : ∀ v ∈ ([] : List V), p v := fun v hv => by cases hv
theorem all_cons {p : V → Prop} {x : V} {xs : List V} (h : p x) (t : ∀ v ∈ xs, p v) : ∀ v ∈ x :: xs, p v := fun v hv => by
  rcases List.mem_cons.mp hv with e | e
  · rw [e]
    exact h
  · exact t v e
end

/-! ### slices, comprehensions, objects: rules of general use -/
section
variable {σ : St} {H : Hp} {n b c : St → Hp → Prop} {r : VK} {Q : VK} {K : Frg} {a C dx : Addr} {fs : List (Str × V)} {f : Str} {v : V}
theorem r_fsetK {R : Hp → Prop} {fs' : List (Str × V)} (h : H a = some (.ins C dx fs)) (cl : Cls K C) (na : NoAttr K C f) (hl : fs.length < 1000) (e : putF f v fs = fs') (q : ∀ H', H' a = some (.ins C dx fs') → (∀ b, b ≠ a → H' b = H b) → R H') :
    ∃ a' C dx fs, V.ref a = .ref a' ∧ H a' = some (.ins C dx fs) ∧ Cls K C ∧ NoAttr K C f ∧ fs.length < 1000 ∧ R (upd H a' (.ins C dx (putF f v fs))) := r_fset h cl na hl e (q _ upd_same fun _ hb => upd_ne hb)
theorem r_appK {p : Addr} {xs : List V} {y : V} (h : H p = some (.lst xs)) (hl : xs.length < sizeLine) (q : ∀ H', H' p = some (.lst (xs ++ [y])) → (∀ b, b ≠ p → H' b = H b) → Q .non H') : rAppend (.ref p) [y] H Q := r_app h hl (q _ upd_same fun _ hb => upd_ne hb)
theorem r_gfldV {R : St → Hp → Prop} {fs' : List (Str × V)} {k : Nat} (ek : σ[k]? = some (some (.ref a))) (h : H a = some (.ins C dx fs)) (cl : Cls K C) (na : NoAttr K C f) (hl : fs.length < 1000) (e : putF f v fs = fs') (q : ∀ H', H' a = some (.ins C dx fs') → (∀ b, b ≠ a → H' b = H b) → R σ H') : gFld K (tVar k) f v σ H R :=
  ⟨_, ek, a, C, dx, fs, rfl, h, cl, na, hl, by rw [e]; exact q _ upd_same fun _ hb => upd_ne hb⟩
end
def But (a l : Addr) (H H' : Hp) : Prop := ∀ b u, b ≠ a → b ≠ l → H b = some u → H' b = some u
theorem map_snoc (ps : List Int) (x : Int) : ps.map V.int ++ [V.int x] = (ps ++ [x]).map V.int := by simp
theorem dp_tup {K : Frg} {H : Hp} {v : V} {ds : List PyData} (h : Dp K H v (.tuple ds)) : ∃ a xs, v = .ref a ∧ SqT K H a xs ∧ DpAll K H xs ds := by
  cases h
  exact ⟨_, _, rfl, by assumption, by assumption⟩
theorem dp_get {K : Frg} {H : Hp} : ∀ {xs : List V} {ds : List PyData} {i : Nat} {x : V}, DpAll K H xs ds → xs[i]? = some x → ∃ d, ds[i]? = some d ∧ Dp K H x d
  | [], _, _, _, _, e => by cases e
  | x :: xs, _, 0, _, .cons h t, e => by
    cases e
    exact ⟨_, rfl, h⟩
  | x :: xs, _, i + 1, _, .cons h t, e => by
    obtain ⟨d, e1, h1⟩ := dp_get (i := i) t e
    exact ⟨d, e1, h1⟩
theorem dp_len {K : Frg} {H : Hp} : ∀ {xs : List V} {ds : List PyData}, DpAll K H xs ds → xs.length = ds.length
  | [], _, .nil => rfl
  | _ :: _, _, .cons _ t => congrArg (· + 1) (dp_len t)
theorem dp_ints {K : Frg} {H : Hp} : ∀ {xs : List V} (ns : List Int), DpAll K H xs (ns.map PyData.int) → xs = ns.map V.int
  | _, [], h => by
    cases h
    rfl
  | _, n :: ns, h => by
    cases h with
    | cons h t =>
      cases h
      rw [dp_ints ns t]
      rfl
theorem dpa_ints {K : Frg} {H : Hp} : ∀ (ns : List Int), DpAll K H (ns.map V.int) (ns.map PyData.int)
  | [] => .nil
  | n :: ns => .cons (.int n) (dpa_ints ns)
theorem shaped_ints (ns : List Int) : SeqAt.shaped (.list (ns.map PyData.int)) = true := PySem.W.ke_shaped_ints ns
theorem ints_get {cs : List Int} {i : Nat} {x : V} (e : (cs.map V.int)[i]? = some x) : ∃ c, cs[i]? = some c ∧ x = .int c ∧ cs.take (i + 1) = cs.take i ++ [c] := by
  rw [List.getElem?_map] at e
  obtain ⟨c, h, rfl⟩ := Option.map_eq_some_iff.mp e
  refine ⟨c, h, rfl, ?_⟩
  rw [List.take_succ, h]
  rfl
theorem ints_step {cs : List Int} {i : Nat} {c : Int} (h : cs[i]? = some c) : cs.take (i + 1) = cs.take i ++ [c] := by
  rw [List.take_succ, h]
  rfl
/-- the state stays when a place changes that was free at an earlier heap -/
theorem LS.away {K : PySem.W.Frag} {S : SC} {H1 H' : Hp} (L1 : LS K S H1) {D : Addr} (hD : H1 D = none) (L : LS K S H') (o : HO) : LS K S (upd H' D o) := by
  obtain ⟨⟨k, l, f, e⟩, h2, h3, h4, h5⟩ := L1
  obtain ⟨⟨k', l', f', e'⟩, h2', _, _, h5'⟩ := L
  have n : ∀ {b : Addr} {u : HO}, H1 b = some u → b ≠ D := fun h z => by
    rw [z, hD] at h
    cases h
  refine ⟨⟨k', l', f', (upd_ne (n e)).trans e'⟩, (upd_ne (n h2)).trans h2', h3, h4, ?_⟩
  rcases h5 with (h | ⟨u, h⟩) | h
  · exact seq_upd h5' (n h)
  · exact seq_upd h5' (n h)
  · exact .inr h
theorem r_sl {σ : St} {H : Hp} {Q : VK} {r : V → Option Int → Option Int → Hp → VK → Prop} {te : TE} {tl th : TO} (h : te σ H fun x H1 => tl σ H1 fun l H2 => th σ H2 fun u H3 => r x l u H3 Q) : tSl r te tl th σ H Q := h
theorem r_part {σ : St} {H : Hp} {t : TE} {Q : Option Int → Hp → Prop} (h : t σ H fun x H1 => ∃ i, x = .int i ∧ Q (some i) H1) : tPart t σ H Q := h
theorem r_some {i : Int} {Q : Option Int → Prop} (h : Q (some i)) : ∃ j, V.int i = .int j ∧ Q (some j) := ⟨i, rfl, h⟩
theorem r_nopart {σ : St} {H : Hp} {Q : Option Int → Hp → Prop} (h : Q none H) : tNoPart σ H Q := h
theorem r_slL {K : PySem.W.Frag} {p : Addr} {xs : List V} {lo hi : Option Int} {H : Hp} {Q : VK} (hs : SqL K H p xs) (h : ∀ q, H q = none → Q (.ref q) (upd H q (.lst (cutV xs lo hi)))) : rSlL K (.ref p) lo hi H Q := ⟨p, xs, rfl, hs, h⟩
theorem cut_tl {v : V} {xs : List V} : cutV (v :: xs) (some 1) none = xs := by
  have e : HT.sIx (v :: xs).length 0 (some 1) = 1 := (HT.sIx_nat (v :: xs).length 0 1).trans (by show min 1 (xs.length + 1) = 1; omega)
  unfold cutV
  rw [e, HT.sIx_none]
  show xs.take (xs.length + 1 - 1) = xs
  simp
theorem r_min2 {σ : St} {H : Hp} {Q : VK} {K : PySem.W.Frag} {p : Addr} {x y : Int} (hs : H p = some (.lst [.int x, .int y])) (h : Q (.int (min x y)) H) : rMin K [.ref p] H Q := by
  refine ⟨p, [x, y], rfl, SqL.of hs, by show 0 < 2; decide, fun m hm hle => ?_⟩
  have h1 := hle x (by simp)
  have h2 := hle y (by simp)
  have e : m = min x y := by
    rcases List.mem_cons.mp hm with e | e
    · omega
    · rcases List.mem_cons.mp e with e | e
      · omega
      · cases e
  rw [e]
  exact h
theorem at0 {v : V} {xs : List V} : atI (v :: xs) 0 = some v := atI_nat (xs := v :: xs) (j := 0) rfl
theorem cut_ints (zs : List Int) (lo hi : Option Int) : ∃ ws : List Int, cutV (zs.map V.int) lo hi = ws.map V.int ∧ (∀ x ∈ ws, x ∈ zs) ∧ ws.length ≤ zs.length := by
  refine ⟨(zs.drop (HT.sIx (zs.map V.int).length 0 lo)).take (HT.sIx (zs.map V.int).length (zs.map V.int).length hi - HT.sIx (zs.map V.int).length 0 lo), ?_, ?_, ?_⟩
  · unfold cutV
    rw [List.map_take, List.map_drop]
  · intro x hx
    exact List.mem_of_mem_drop (List.mem_of_mem_take hx)
  · rw [List.length_take, List.length_drop]
    omega
/-- a slice of a row of numbers in a slot -/
theorem d_cut {σ : St} {H : Hp} {Q : VK} {K : PySem.W.Frag} {k : Nat} {o : Addr} {zs : List Int} {tl th : TO} (lo hi : Option Int) (e : σ[k]? = some (some (.ref o))) (g : H o = some (.lst (zs.map V.int))) (hl : ∀ R : Option Int → Hp → Prop, R lo H → tl σ H R) (hh : ∀ R : Option Int → Hp → Prop, R hi H → th σ H R)
    (h : ∀ (q : Addr) (ws : List Int), H q = none → (∀ x ∈ ws, x ∈ zs) → ws.length ≤ zs.length → Q (.ref q) (upd H q (.lst (ws.map V.int)))) : tSl (rSlL K) (tVar k) tl th σ H Q := by
  refine r_sl ⟨_, e, hl _ (hh _ ?_)⟩
  obtain ⟨ws, e1, e2, e3⟩ := cut_ints zs lo hi
  refine r_slL (SqL.of g) fun q nq => ?_
  rw [e1]
  exact h q ws nq e2 e3
theorem cat_ints (a b : List Int) : a.map V.int ++ b.map V.int = (a ++ b).map V.int := by simp
theorem LS.but {K : PySem.W.Frag} {S : SC} {H1 H H' : Hp} (L1 : LS K S H1) {m l : Addr} (hm : H1 m = none) (hl : H1 l = none) (L : LS K S H) (b : But m l H H') : LS K S H' := by
  obtain ⟨⟨k, l', f, e⟩, h2, h3, h4, h5⟩ := L1
  obtain ⟨⟨k', l'', f', e'⟩, h2', _, _, h5'⟩ := L
  have n1 : ∀ {b : Addr} {u : HO}, H1 b = some u → b ≠ m := fun h z => by
    rw [z, hm] at h
    cases h
  have n2 : ∀ {b : Addr} {u : HO}, H1 b = some u → b ≠ l := fun h z => by
    rw [z, hl] at h
    cases h
  refine ⟨⟨k', l'', f', b _ _ (n1 e) (n2 e) e'⟩, b _ _ (n1 h2) (n2 h2) h2', h3, h4, ?_⟩
  have go : S.sl ≠ m → S.sl ≠ l → SqL K H' S.sl (S.ns.map V.int) := fun q1 q2 => by
    rcases h5' with (h | ⟨u, h⟩) | h
    · exact .inl (.inl (b _ _ q1 q2 h))
    · exact .inl (.inr ⟨u, b _ _ q1 q2 h⟩)
    · exact .inr h
  rcases h5 with (h | ⟨u, h⟩) | h
  · exact go (n1 h) (n2 h)
  · exact go (n1 h) (n2 h)
  · exact .inr h
theorem But.refl (a l : Addr) (H : Hp) : But a l H H := fun _ _ _ _ z => z
theorem But.trans {a l : Addr} {H H1 H2 : Hp} (x : But a l H H1) (y : But a l H1 H2) : But a l H H2 := fun b u p q z => y b u p q (x b u p q z)
theorem But.same {a l : Addr} {H H1 : Hp} (x : Same H H1) : But a l H H1 := fun b u _ _ z => x b u z
theorem cut_to {zs : List Int} {d : Nat} (h : d ≤ zs.length) : cutV (zs.map V.int) none (some (d : Nat)) = (zs.take d).map V.int := by
  unfold cutV
  rw [HT.sIx_nat, HT.sIx_none, List.length_map, Nat.min_eq_left h, List.drop_zero, Nat.sub_zero, List.map_take]
theorem r_lcL {σ : St} {H : Hp} {Q : VK} {K : PySem.W.Frag} {tl : TE} {g : TG} {tt : TT} {te : TE} {vs : List Nat} (h : tl σ H fun x H1 => ∃ a, x = .ref a ∧ (∃ xs, SqL K H1 a xs) ∧ ∀ D, H1 D = none → ∃ W : Nat → Nat → Hp → Prop, (∃ m, W 0 m (upd H1 D (.lst []))) ∧ ∀ i m H, W i m H →
  ((Itl K a).stop i H ∧ Q (.ref D) H) ∨ ((Itl K a).go i H ∧ ∃ Nx : Hp → Prop, (∀ H', Nx H' → ∃ m', m' < m ∧ W (i + 1) m' H') ∧ ∀ x H', (Itl K a).yld i H x H' → g x (wipe σ vs) H' fun σ2 H2 => wipe σ2 vs = wipe σ vs ∧ tt σ2 H2 fun b H3 =>
    if b = true then te σ2 H3 fun y H4 => ∃ acc, H4 D = some (.lst acc) ∧ acc.length < sizeLine ∧ Nx (upd H4 D (.lst (acc ++ [y]))) else Nx H3)) : tLc (iList K tl) g tt te vs σ H Q := h
/-- a for over range(j), what stands behind a break known -/
theorem r_turnsB {σ : St} {H : Hp} {n : St → Hp → Prop} {r : VK} {j : Int} {g : TG} {tb : TS} (h1 : -(2 ^ 62) ≤ j) (h2 : j < 2 ^ 62) (M : St → Hp → Prop) (hM : ∀ σ H, M σ H → n σ H) (Pv : Nat → St → Hp → Prop) (h0 : Pv 0 σ H)
    (hs : (∀ σ H, M σ H → n σ H) → ∀ (i : Nat) σ H, (i : Int) < j → Pv i σ H → g (.int (i : Int)) σ H fun σ2 H2 => tb ⟨Pv (i + 1), r, n, Pv (i + 1)⟩ σ2 H2) (hd : ∀ σ H, Pv j.toNat σ H → M σ H) :
    -(2 ^ 62) ≤ j ∧ j < 2 ^ 62 ∧ ∃ W : Nat → Nat → St → Hp → Prop, (∃ m, W 0 m σ H) ∧ ∀ i m σ H, W i m σ H →
    ((Itr 0 j.toNat).stop i H ∧ n σ H) ∨ ((Itr 0 j.toNat).go i H ∧ ∃ N : St → Hp → Prop, (∀ σ' H', N σ' H' → ∃ m', m' < m ∧ W (i + 1) m' σ' H') ∧ ∀ x H', (Itr 0 j.toNat).yld i H x H' → g x σ H' fun σ2 H2 => tb ⟨N, r, n, N⟩ σ2 H2) :=
  r_turns h1 h2 Pv h0 (hs hM) fun σ H p => hM σ H (hd σ H p)
theorem at_end (a : List Int) (v : Int) : atI ((a ++ [v]).map V.int) ((((a ++ [v]).length : Nat) : Int) - 1) = some (.int v) := by
  rw [show (((a ++ [v]).length : Nat) : Int) - 1 = ((a.length : Nat) : Int) by rw [List.length_append]; show ((a.length + 1 : Nat) : Int) - 1 = _; omega]
  refine atI_nat ?_
  rw [List.getElem?_map, List.getElem?_append_right (Nat.le_refl _), Nat.sub_self]
  rfl
theorem r_lc0 {σ : St} {H : Hp} {Q : VK} {ta : TA} {g : TG} {tt : TT} {te : TE} {vs : List Nat} (h : ta σ H fun ws H1 => ∃ j : Int, ws = [.int j] ∧ -(2 ^ 62) ≤ j ∧ j < 2 ^ 62 ∧ ∀ D, H1 D = none → ∃ W : Nat → Nat → Hp → Prop, (∃ m, W 0 m (upd H1 D (.lst []))) ∧ ∀ i m H, W i m H →
  ((Itr 0 j.toNat).stop i H ∧ Q (.ref D) H) ∨ ((Itr 0 j.toNat).go i H ∧ ∃ Nx : Hp → Prop, (∀ H', Nx H' → ∃ m', m' < m ∧ W (i + 1) m' H') ∧ ∀ x H', (Itr 0 j.toNat).yld i H x H' → g x (wipe σ vs) H' fun σ2 H2 => wipe σ2 vs = wipe σ vs ∧ tt σ2 H2 fun b H3 =>
    if b = true then te σ2 H3 fun y H4 => ∃ acc, H4 D = some (.lst acc) ∧ acc.length < sizeLine ∧ Nx (upd H4 D (.lst (acc ++ [y]))) else Nx H3)) : tLc (iRng1 ta) g tt te vs σ H Q := h

/-! ### more rules of general use -/
theorem r_lcT {σ : St} {H : Hp} {Q : VK} {K : PySem.W.Frag} {tl : TE} {g : TG} {tt : TT} {te : TE} {vs : List Nat} (h : tl σ H fun x H1 => ∃ a, x = .ref a ∧ (∃ xs, SqT K H1 a xs) ∧ ∀ D, H1 D = none → ∃ W : Nat → Nat → Hp → Prop, (∃ m, W 0 m (upd H1 D (.lst []))) ∧ ∀ i m H, W i m H →
  ((Itt K a).stop i H ∧ Q (.ref D) H) ∨ ((Itt K a).go i H ∧ ∃ Nx : Hp → Prop, (∀ H', Nx H' → ∃ m', m' < m ∧ W (i + 1) m' H') ∧ ∀ x H', (Itt K a).yld i H x H' → g x (wipe σ vs) H' fun σ2 H2 => wipe σ2 vs = wipe σ vs ∧ tt σ2 H2 fun b H3 =>
    if b = true then te σ2 H3 fun y H4 => ∃ acc, H4 D = some (.lst acc) ∧ acc.length < sizeLine ∧ Nx (upd H4 D (.lst (acc ++ [y]))) else Nx H3)) : tLc (iTup K tl) g tt te vs σ H Q := h
theorem r_gunl {σ : St} {H : Hp} {K : PySem.W.Frag} {p : Addr} {xs : List V} {n : Nat} {t : TGs} {R : St → Hp → Prop} (hs : SqL K H p xs) (hl : xs.length = n) (h : t xs σ H R) : gUnl K n t (.ref p) σ H R := ⟨p, xs, rfl, hs, hl, h⟩
theorem cut_from {zs : List Int} {d : Nat} : cutV (zs.map V.int) (some (d : Nat)) none = (zs.drop d).map V.int := by
  unfold cutV
  rw [HT.sIx_nat, HT.sIx_none, List.length_map]
  by_cases h : d ≤ zs.length
  · rw [Nat.min_eq_left h, List.take_of_length_le (by rw [List.length_drop, List.length_map]; omega), List.map_drop]
  · rw [Nat.min_eq_right (by omega), List.drop_of_length_le (by rw [List.length_map]; omega), List.drop_of_length_le (by omega)]
    simp
theorem cut_mid {zs : List Int} {d e : Nat} (h : d ≤ e) : cutV (zs.map V.int) (some (d : Nat)) (some (e : Nat)) = ((zs.drop d).take (e - d)).map V.int := by
  unfold cutV
  rw [HT.sIx_nat, HT.sIx_nat, List.length_map]
  by_cases h1 : e ≤ zs.length
  · rw [Nat.min_eq_left h1, Nat.min_eq_left (by omega), List.map_take, List.map_drop]
  · by_cases h2 : d ≤ zs.length
    · rw [Nat.min_eq_right (by omega), Nat.min_eq_left h2, List.map_take, List.map_drop, List.take_of_length_le (by rw [List.length_drop, List.length_map]; omega), List.take_of_length_le (by rw [List.length_drop, List.length_map]; omega)]
    · rw [Nat.min_eq_right (by omega), Nat.min_eq_right (by omega), Nat.sub_self, List.take_zero, List.drop_of_length_le (l := zs) (by omega)]
      simp
theorem cut_to' {zs : List Int} {d : Nat} : cutV (zs.map V.int) none (some (d : Nat)) = (zs.take d).map V.int := by
  unfold cutV
  rw [HT.sIx_nat, HT.sIx_none, List.length_map, List.drop_zero, Nat.sub_zero, List.map_take]
  by_cases h : d ≤ zs.length
  · rw [Nat.min_eq_left h]
  · rw [Nat.min_eq_right (by omega), List.take_of_length_le (by rw [List.length_map]; omega), List.take_of_length_le (by rw [List.length_map]; omega)]
/-- list + list, both of integers -/
theorem r_catI {a b : Addr} {xs ys : List Int} {H : Hp} {Q : VK} (h1 : H a = some (.lst (xs.map V.int))) (h2 : H b = some (.lst (ys.map V.int))) (hl : xs.length + ys.length ≤ 1000) (h : ∀ p H', H p = none → H' p = some (.lst ((xs ++ ys).map V.int)) → Same H H' → Q (.ref p) H') : rCat (.ref a) (.ref b) H Q :=
  ⟨a, b, _, _, rfl, rfl, h1, h2, Nat.le_of_lt (small1000 (by rw [List.length_map, List.length_map]; exact hl)), fun p hp => h p _ hp (by rw [upd_same, cat_ints]) (same_upd hp _)⟩
theorem r_slI {K : PySem.W.Frag} {p : Addr} {xs ys : List Int} {lo hi : Option Int} {H : Hp} {Q : VK} (hs : H p = some (.lst (xs.map V.int))) (e : cutV (xs.map V.int) lo hi = ys.map V.int) (h : ∀ q H', H q = none → H' q = some (.lst (ys.map V.int)) → Same H H' → Q (.ref q) H') : rSlL K (.ref p) lo hi H Q :=
  r_slL (SqL.of hs) fun q hq => h q _ hq (by rw [upd_same, e]) (same_upd hq _)
/-- a new list or tuple -/
theorem r_nw {o : HO} {R : Addr → Hp → Prop} {c : Prop} {H : Hp} (hc : c) (h : ∀ (p : Addr) (H' : Hp), H p = none → H' p = some o → Same H H' → R p H') : c ∧ ∀ p, H p = none → R p (upd H p o) :=
  ⟨hc, fun p hp => h p _ hp upd_same (same_upd hp o)⟩
theorem r_nwI {zs : List Int} {R : Addr → Hp → Prop} {c : Prop} {H : Hp} (hc : c) (h : ∀ (p : Addr) (H' : Hp), H p = none → H' p = some (.lst (zs.map V.int)) → Same H H' → R p H') : c ∧ ∀ p, H p = none → R p (upd H p (.lst (zs.map V.int))) :=
  r_nw hc h
theorem same_tup {K : PySem.W.Frag} {H H' : Hp} {a : Addr} {xs : List V} (e : Same H H') (h : SqT K H a xs) : SqT K H' a xs := by
  rcases h with (h | ⟨o, h⟩) | h
  · exact .inl (.inl (e _ _ h))
  · exact .inl (.inr ⟨o, e _ _ h⟩)
  · exact .inr h
theorem same_seq {K : PySem.W.Frag} {H H' : Hp} {a : Addr} {xs : List V} (e : Same H H') (h : SqL K H a xs ∨ SqT K H a xs) : SqL K H' a xs ∨ SqT K H' a xs := h.elim (fun q => .inl (e.seq q)) fun q => .inr (same_tup e q)
theorem same_away {H1 H' : Hp} {D : Addr} {o : HO} (s : Same H1 H') (n : H1 D = none) : Same H1 (upd H' D o) := fun b u h => by
  rw [upd_ne (ne_of_none h n)]
  exact s b u h
theorem rep1 (n : Nat) (z : Int) : (List.replicate n [V.int z]).flatten = (List.replicate n z).map V.int := by
  induction n with
  | zero => rfl
  | succ n ih => rw [List.replicate_succ, List.replicate_succ, List.flatten_cons, ih]; rfl
/-- [z] * k -/
theorem r_repI {a : Addr} {z k : Int} {H : Hp} {Q : VK} (h1 : H a = some (.lst [.int z])) (h0 : -1000 ≤ k) (hk : k ≤ 1000) (h : ∀ p H', H p = none → H' p = some (.lst ((List.replicate k.toNat z).map V.int)) → Same H H' → Q (.ref p) H') : rRep (.ref a) (.int k) H Q :=
  ⟨a, k, [.int z], rfl, rfl, h1, by omega, by omega, Nat.le_of_lt (small1000 (by show 1 * _ ≤ 1000; omega)), fun p hp => h p _ hp (by rw [upd_same, rep1]) (same_upd hp _)⟩
def sp0 (f : Hp → VK → XK → Prop) : Sp := fun vs H Q E => vs = [] ∧ f H Q E
theorem len0 {f} (vs : List V) (H : Hp) (Q : VK) (E : XK) (h : sp0 f vs H Q E) : vs.length = 0 := by
  obtain ⟨rfl, _⟩ := h
  rfl
theorem ffl {i : Int} (h1 : -(2 ^ 62) ≤ i) (h2 : i < 2 ^ 62) : Builtin.Range.rangeFitsLong i = true := by
  unfold Builtin.Range.rangeFitsLong
  rw [decide_eq_true (by omega), decide_eq_true (by omega)]
  rfl
theorem rgP (n c k : Nat) (hn : n < 2 ^ 60) (h0 : 0 < c) (hc : c < 1000) (hk : k = (n + (c - 1)) / c) : RgC 0 (n : Nat) (c : Nat) k := by
  have hkn : k ≤ n + (c - 1) := by
    rw [hk]
    exact Nat.div_le_self _ _
  have e : Builtin.Range.rangeSize 0 (n : Nat) (c : Nat) = ((k : Nat) : Int) := by
    unfold Builtin.Range.rangeSize
    rw [if_pos (by omega)]
    by_cases z : n = 0
    · subst z
      rw [if_neg (by omega)]
      have : k = 0 := by rw [hk, Nat.zero_add]; exact Nat.div_eq_of_lt (by omega)
      omega
    · rw [if_pos (by omega)]
      have e1 : ((n : Nat) : Int) - 0 - 1 = ((n - 1 : Nat) : Int) := by omega
      rw [e1]
      have e2 : (n + (c - 1)) / c = (n - 1) / c + 1 := by
        rw [show n + (c - 1) = n - 1 + c by omega, Nat.add_div_right _ h0]
      rw [hk, e2]
      simp
  have hs : Builtin.Range.small 0 (n : Nat) (c : Nat) = true := by
    unfold Builtin.Range.small
    rw [e, ffl (by decide) (by decide), ffl (by omega) (by omega), ffl (by omega) (by omega), ffl (by omega) (by omega), if_pos (by omega), ffl (by omega) (by omega)]
    simp
  exact ⟨by omega, by omega, hs, e⟩
/-- list.extend -/
theorem r_extI {a b : Addr} {xs ys : List Int} {H : Hp} {Q : VK} (h1 : H a = some (.lst (xs.map V.int))) (h2 : H b = some (.lst (ys.map V.int))) (hl : xs.length + ys.length ≤ 4000) (h : ∀ H', H' a = some (.lst ((xs ++ ys).map V.int)) → (∀ b o, b ≠ a → H b = some o → H' b = some o) → (∀ H1, Same H1 H → H1 a = none → Same H1 H') → Q .non H') : rExtend (.ref a) [.ref b] H Q :=
  ⟨a, b, _, _, rfl, rfl, h1, h2, Nat.le_trans (by rw [List.length_map, List.length_map]; exact hl) (by decide : 4000 ≤ sizeLine), h _ (by rw [upd_same, cat_ints]) (fun b o n e => by rw [upd_ne n]; exact e) fun H1 s n => same_away s n⟩
/-- a slice of a row, list or tuple -/
theorem r_slSeq {K : PySem.W.Frag} {p : Addr} {xs : List Int} {d e : Nat} {H : Hp} {Q : VK} (hde : d ≤ e) (hs : SqL K H p (xs.map V.int) ∨ SqT K H p (xs.map V.int)) (h : ∀ q H', SqL K H' q (((xs.drop d).take (e - d)).map V.int) ∨ SqT K H' q (((xs.drop d).take (e - d)).map V.int) → Same H H' → Q (.ref q) H') : rSlL K (.ref p) (some (d : Nat)) (some (e : Nat)) H Q ∨ rSlA K (.ref p) (some (d : Nat)) (some (e : Nat)) H Q := by
  rcases hs with hs | hs
  · refine .inl (r_slL hs fun q hq => h q _ (.inl (SqL.of ?_)) (same_upd hq _))
    rw [upd_same, cut_mid hde]
  · refine .inr ⟨p, _, rfl, hs, fun hw => ?_, fun _ q hq => ?_⟩
    · refine h p H (.inr ?_) (Same.refl H)
      obtain ⟨w1, w2⟩ := hw
      rw [HT.sIx_nat, List.length_map] at w1 w2
      by_cases c : d = 0
      · subst c
        rw [List.drop_zero, List.take_of_length_le (by omega)]
        exact hs
      · have e0 : xs.length = 0 := by omega
        have e1 : xs = [] := List.length_eq_zero_iff.mp e0
        subst e1
        simpa using hs
    · refine h q _ (.inr (SqT.of ?_)) (same_upd hq _)
      rw [upd_same, cut_mid hde]
theorem pe_c0 {X : Cx} {k j : Nat} {x : Str} {sp : Sp} {dvs : List V} {p pos : Pos} (c : Cal X.prog X.w X.K X.mg X.base k x sp dvs) (hr : Room j X.A) (hk : k ≤ j) (hg : Gl X x) (hdb : (x == ("__debug__" : Str)) = false := by decide) : PE X (.Call (.Name x p) [] [] pos) (tCall sp dvs C8.E0 tNil) := by
  obtain ⟨f, fd, ps, ds, F, hm, hk', b, d⟩ := c.ex
  exact pe_call0 F (hr.mono hk) hg hm hk' b d pass0 hdb

theorem eqv_ints (a b : List Int) : PyData.eqv (.list (a.map PyData.int)) (.list (b.map PyData.int)) = decide (a = b) := PySem.W.ked_eqvAll a b
/-- two rows of integers compared -/
theorem r_eqIL {K : PySem.W.Frag} {p q : Addr} {a b : List Int} {H : Hp} {Q : VK} (h1 : SqL K H p (a.map V.int)) (h2 : SqL K H q (b.map V.int)) (h : Q (.bl (decide (a = b))) H) : rEqD K (.ref p) (.ref q) H Q :=
  r_eqD (.lst h1 (dpa_ints _)) (.lst h2 (dpa_ints _)) (shaped_ints _) (shaped_ints _) (by rw [eqv_ints]; exact h)
theorem r_neIL {K : PySem.W.Frag} {p q : Addr} {a b : List Int} {H : Hp} {Q : VK} (h1 : SqL K H p (a.map V.int)) (h2 : SqL K H q (b.map V.int)) (h : Q (.bl (!decide (a = b))) H) : rNeD K (.ref p) (.ref q) H Q :=
  r_neD (.lst h1 (dpa_ints _)) (.lst h2 (dpa_ints _)) (shaped_ints _) (shaped_ints _) (by rw [eqv_ints]; exact h)
/-- a for over a text -/
theorem r_eachS {σ : St} {H : Hp} {n : St → Hp → Prop} {r : VK} {g : TG} {tb : TS} {z : Str} (Pv : Nat → St → Hp → Prop) (h0 : Pv 0 σ H)
    (hs : ∀ (i : Nat) (c : Nat) σ H, z.cps[i]? = some c → Pv i σ H → g (.str ⟨#[c]⟩) σ H fun σ2 H2 => tb ⟨Pv (i + 1), r, n, Pv (i + 1)⟩ σ2 H2) (hd : ∀ σ H, Pv z.cps.size σ H → n σ H) :
    ∃ W : Nat → Nat → St → Hp → Prop, (∃ m, W 0 m σ H) ∧ ∀ i m σ H, W i m σ H →
    ((Its z).stop i H ∧ n σ H) ∨ ((Its z).go i H ∧ ∃ N : St → Hp → Prop, (∀ σ' H', N σ' H' → ∃ m', m' < m ∧ W (i + 1) m' σ' H') ∧ ∀ x H', (Its z).yld i H x H' → g x σ H' fun σ2 H2 => tb ⟨N, r, n, N⟩ σ2 H2) := by
  refine r_each z.cps.size Pv h0 (fun i σ H hi p => ⟨hi, ?_⟩) fun σ H p => ⟨Nat.le_refl _, hd σ H p⟩
  rintro x _ ⟨rfl, c, hc, rfl⟩
  exact hs i c σ _ hc p
theorem r_itS {σ : St} {H : Hp} {te : TE} {R : It → Hp → Prop} (h : te σ H fun v H1 => ∃ x, v = .str x ∧ R (Its x) H1) : iStr te σ H R := h
def rLenK (K : Frg) : List V → Hp → VK → Prop := fun xs H Q => ∃ p ys, xs = [.ref p] ∧ (SqL K H p ys ∨ SqT K H p ys) ∧ Q (.int ys.length) H
def rListK (K : Frg) : List V → Hp → VK → Prop := fun xs H Q => ∃ p ys, xs = [.ref p] ∧ (SqL K H p ys ∨ SqT K H p ys) ∧ ∀ l, H l = none → Q (.ref l) (upd H l (.lst ys))
def rTupleK (K : Frg) : List V → Hp → VK → Prop := fun xs H Q => ∃ p ys, xs = [.ref p] ∧ ((SqL K H p ys ∧ ∀ l, H l = none → Q (.ref l) (upd H l (.tup ys))) ∨ (SqT K H p ys ∧ Q (.ref p) H))
theorem small4k {n : Nat} (h : n ≤ 4000) : n < sizeLine := Nat.lt_of_le_of_lt h (by decide)
theorem r_ifTF {b : Bool} {A B : Prop} (h1 : b = true → A) (h2 : b = false → B) : if b = true then A else B := by
  cases b with
  | true => exact h1 rfl
  | false => exact h2 rfl

/-! ### sorted: pairs of a tuple of integers and something, no two with the same integers -/
section
open PyProof.Rows PySem.W PySem.Calls
theorem lexLt_irr : ∀ a : List Int, HT.lexLt a a = false
  | [] => rfl
  | x :: xs => by
    rw [HT.lexLt_cons, if_pos rfl]
    exact lexLt_irr xs
theorem lexLt_asym : ∀ a b : List Int, HT.lexLt a b = true → HT.lexLt b a = false
  | [], [], h => by cases h
  | [], y :: ys, _ => rfl
  | x :: xs, [], h => by cases h
  | x :: xs, y :: ys, h => by
    rw [HT.lexLt_cons] at h ⊢
    by_cases e : x = y
    · rw [if_pos e] at h
      rw [if_pos e.symm]
      exact lexLt_asym xs ys h
    · rw [if_neg e] at h
      rw [if_neg (fun q => e q.symm)]
      have := of_decide_eq_true h
      exact decide_eq_false (by omega)
theorem lexLt_ntr : ∀ a b c : List Int, HT.lexLt b a = false → HT.lexLt c b = false → HT.lexLt c a = false
  | [], _, [], _, _ => rfl
  | [], _, z :: zs, _, _ => rfl
  | x :: xs, [], _, h, _ => by cases h
  | x :: xs, y :: ys, [], _, h => by cases h
  | x :: xs, y :: ys, z :: zs, h1, h2 => by
    rw [HT.lexLt_cons] at h1 h2 ⊢
    by_cases e1 : y = x
    · subst e1
      rw [if_pos rfl] at h1
      by_cases e2 : z = y
      · subst e2
        rw [if_pos rfl] at h2 ⊢
        exact lexLt_ntr xs ys zs h1 h2
      · rw [if_neg e2] at h2 ⊢
        exact h2
    · rw [if_neg e1] at h1
      have h1 := of_decide_eq_false h1
      by_cases e2 : z = y
      · subst e2
        rw [if_neg e1]
        exact decide_eq_false h1
      · rw [if_neg e2] at h2
        have h2 := of_decide_eq_false h2
        rw [if_neg (by omega)]
        exact decide_eq_false (by omega)
theorem lexLt_tri : ∀ a b : List Int, HT.lexLt a b = false → HT.lexLt b a = false → a = b
  | [], [], _, _ => rfl
  | [], y :: ys, h, _ => by cases h
  | x :: xs, [], _, h => by cases h
  | x :: xs, y :: ys, h1, h2 => by
    rw [HT.lexLt_cons] at h1 h2
    by_cases e : x = y
    · subst e
      rw [if_pos rfl] at h1 h2
      rw [lexLt_tri xs ys h1 h2]
    · rw [if_neg e] at h1
      rw [if_neg (fun q => e q.symm)] at h2
      have h1 := of_decide_eq_false h1
      have h2 := of_decide_eq_false h2
      omega
theorem lexLt_tr {a b c : List Int} (h1 : HT.lexLt a b = true) (h2 : HT.lexLt b c = true) : HT.lexLt a c = true := by
  cases h : HT.lexLt a c with
  | true => rfl
  | false =>
    have q := lexLt_ntr c a b h (lexLt_asym _ _ h1)
    rw [q] at h2
    cases h2
theorem swo_key {α : Type} (k : α → List Int) : SrtO.Swo fun v u => HT.lexLt (k v) (k u) := ⟨fun x y h => lexLt_asym _ _ h, fun x y z h1 h2 => lexLt_ntr _ _ _ h1 h2⟩
/-- a tuple of these integers in a heap -/
def IsTI (h : Heap) (q : Addr) (ns : List Int) : Prop := ∃ (o : Obj) (its : List Value) (n : Nat), h.get? q = some o ∧ o.cls = .type "tuple" ∧ o.data = .seq its.toArray n ∧ IntsAre its ns
theorem IsTI.keeps {h h' : Heap} {q : Addr} {ns : List Int} (x : IsTI h q ns) (k : ∀ b o, h.get? b = some o → o.cls = .type "tuple" → h'.get? b = some o) : IsTI h' q ns := by
  obtain ⟨o, its, n, h1, h2, h3, h4⟩ := x
  exact ⟨o, its, n, k _ _ h1 h2, h2, h3, h4⟩
theorem readsAll_ints {h : Heap} : ∀ {its : List Value} {ns : List Int}, IntsAre its ns → ReadsAll h its (ns.map PyData.int) []
  | _, _, .nil => .nil
  | _, _, .cons n t r => .cons (.int n t) (readsAll_ints r)
theorem IsTI.reads {h : Heap} {q : Addr} {ns : List Int} (x : IsTI h q ns) : Reads h (.ref q) (.tuple (ns.map PyData.int)) [] := by
  obtain ⟨o, its, n, h1, h2, h3, h4⟩ := x
  exact .tuple h1 h2 h3 (by simpa using readsAll_ints h4)
theorem lay_ints : ∀ ns : List Int, PyData.canLayAll0 (ns.map PyData.int) = true
  | [] => rfl
  | n :: ns => by
    show (PyData.canLay0 (.int n) && PyData.canLayAll0 (ns.map PyData.int)) = true
    rw [lay_ints ns]
    rfl
theorem lay_kd (ns : List Int) : (PyData.tuple (ns.map PyData.int)).canLay0 = true := lay_ints ns
theorem depth_ints : ∀ ns : List Int, PyData.depthAll (ns.map PyData.int) = 0
  | [] => rfl
  | n :: ns => by
    have e := depth_ints ns
    simp [PyData.depthAll, PyData.depth, e]
theorem depth_kd (ns : List Int) : (PyData.tuple (ns.map PyData.int)).depth ≤ 1 := by
  have e := depth_ints ns
  simp [PyData.depth, e]
theorem eqv_kd (a b : List Int) : PyData.eqv (.tuple (a.map PyData.int)) (.tuple (b.map PyData.int)) = decide (a = b) := PySem.W.ked_eqvAll a b
variable {prog : Program} {w : World} {A : Around} {s : Shared}
theorem ti_eqAt {q q' : Addr} {a b : List Int} (h1 : IsTI s.heap q a) (h2 : IsTI s.heap q' b) (hu : A.units + 1 < cLine) : SeqAt.EqAt A s (.ref q) (.ref q') (decide (a = b)) := by
  have e := SeqAt.eqAt_reads _ _ A s _ _ _ _ h1.reads h2.reads (lay_kd a) (lay_kd b) (by
    have := depth_kd a
    have := Nat.min_le_left (PyData.tuple (a.map PyData.int)).depth (PyData.tuple (b.map PyData.int)).depth
    omega)
  rw [eqv_kd] at e
  exact e
theorem ti_lt {q q' : Addr} {a b : List Int} (h1 : IsTI s.heap q a) (h2 : IsTI s.heap q' b) (hu : A.units < cLine) {E : Value → Shared → Prop} {Q : Bool → Shared → Prop} (h : Q (HT.lexLt a b) s) : wpAny (model prog w) A (oneLt' false (.ref q) (.ref q')) Q E s := by
  obtain ⟨o1, i1, n1, a1, a2, a3, a4⟩ := h1
  obtain ⟨o2, i2, n2, b1, b2, b3, b4⟩ := h2
  refine PySem.W.kat_one _ _ (HT.lt_tupInts (items := i1.toArray) (items2 := i2.toArray) ⟨o1, a1, a2, n1, a3⟩ ⟨o2, b1, b2, n2, b3⟩ (by simpa using a4) (by simpa using b4) hu ?_)
  exact h
/-- such a pair -/
def IsEnt (h : Heap) (v : Value) (ns : List Int) : Prop := ∃ (a q u : Addr) (o : Obj) (n : Nat), v = .ref a ∧ h.get? a = some o ∧ o.cls = .type "tuple" ∧ o.data = .seq #[.ref q, .ref u] n ∧ IsTI h q ns
theorem IsEnt.keeps {h h' : Heap} {v : Value} {ns : List Int} (x : IsEnt h v ns) (k : ∀ b o, h.get? b = some o → o.cls = .type "tuple" → h'.get? b = some o) : IsEnt h' v ns := by
  obtain ⟨a, q, u, o, n, e, h1, h2, h3, h4⟩ := x
  exact ⟨a, q, u, o, n, e, k _ _ h1 h2, h2, h3, h4.keeps k⟩
theorem ents_firsts {h : Heap} {k : Value → List Int} : ∀ {vs : List Value}, (∀ v ∈ vs, IsEnt h v (k v)) → ∃ fs : List Value, PySem.W.KatTups h vs fs ∧ fs.length = vs.length ∧ ∀ f ∈ fs, ∃ q ns, f = Value.ref q ∧ IsTI h q ns
  | [], _ => ⟨[], PySem.W.KatTups.nil, rfl, fun _ hm => by simp at hm⟩
  | v :: vs, hp => by
    obtain ⟨fs, h1, h2, h3⟩ := ents_firsts (vs := vs) fun v' hm => hp v' (List.mem_cons_of_mem _ hm)
    obtain ⟨a, q, u, o, n, e, ho, hc, hd, ht⟩ := hp v (List.mem_cons_self ..)
    subst e
    refine ⟨.ref q :: fs, PySem.W.KatTups.cons ho hc hd rfl h1, by rw [List.length_cons, List.length_cons, h2], fun f hm => ?_⟩
    rcases List.mem_cons.mp hm with rfl | hm
    · exact ⟨q, _, rfl, ht⟩
    · exact h3 f hm
theorem ent_cmp {vs : List Value} {k : Value → List Int} (hu : A.units + 1 < cLine) (hp : ∀ v ∈ vs, IsEnt s.heap v (k v)) (hi : ∀ v ∈ vs, ∀ u ∈ vs, k v = k u → v = u) : SrtO.Cmp prog w A s (tuples' false) (fun p => p.1 ∈ vs) (SrtO.lt2 fun v u => HT.lexLt (k v) (k u)) := by
  intro p q hm hm'
  have h1 := hp _ hm
  have h2 := hp _ hm'
  have hij := hi _ hm _ hm'
  show wpAny (model prog w) A (keyLt' (tuples' false) p.1 q.1) (fun r s' => s' = s ∧ r = HT.lexLt (k p.1) (k q.1)) (fun _ _ => False) s
  generalize k p.1 = x at h1 hij ⊢
  generalize k q.1 = y at h2 hij ⊢
  obtain ⟨a, q1, u, o, n, e, ho, hc, hd, t1⟩ := h1
  obtain ⟨a', q2, u', o', n', e', ho', hc', hd', t2⟩ := h2
  rw [e, e'] at hij ⊢
  refine PySem.W.kat_lt ho hd ho' hd' ?_
  show PySem.W.KatLex prog w A false (decide (2 < 2)) _ [(.ref q1, .ref q2), (.ref u, .ref u')] 0 s
  refine PySem.W.kat_cons (ti_eqAt t1 t2 hu prog w _ _ ?_)
  refine PySem.W.kat_go (fun e1 => ?_) (fun e1 => ?_)
  · have ex : x = y := of_decide_eq_true e1
    have ea := hij ex
    have ea : a = a' := by
      injection ea
    subst ea
    have eo : o = o' := Option.some.inj (ho.symm.trans ho')
    subst eo
    rw [hd] at hd'
    have eu : u = u' := by
      injection hd' with e1 e2
      simp at e1
      exact e1.2
    subst eu
    refine PySem.W.kat_yes (PySem.W.kat_cons (SeqAt.EqAt.same _ prog w _ _ ?_))
    refine PySem.W.kat_go (fun e2 => ?_) (fun e2 => by cases e2)
    refine PySem.W.kat_yes (PySem.W.kat_nil ⟨rfl, ?_⟩)
    rw [ex, lexLt_irr]
    rfl
  · exact PySem.W.kat_no (ti_lt t1 t2 (by omega) ⟨rfl, rfl⟩)
theorem ents_sortable {a : Addr} {vs : List Value} {k : Value → List Int} (hu : A.units + 1 < cLine) (h0 : 0 < vs.length) (hp : ∀ v ∈ vs, IsEnt s.heap v (k v)) (hi : ∀ v ∈ vs, ∀ u ∈ vs, k v = k u → v = u) (ha : ∀ o, s.heap.get? a = some o → o.cls ≠ .type "tuple") : SrtO.SortableO prog w A s a vs fun v u => HT.lexLt (k v) (k u) := by
  intro h' keep
  have kp : ∀ b o, s.heap.get? b = some o → o.cls = .type "tuple" → h'.get? b = some o := fun b o e c => keep b o (fun z => by subst z; exact ha o e c) e
  have hp' : ∀ v ∈ vs, IsEnt h' v (k v) := fun v hm => (hp v hm).keeps kp
  obtain ⟨fs, h1, h2, h3⟩ := ents_firsts hp'
  refine ⟨tuples' false, fun Q E hq => ?_, ent_cmp hu hp' hi⟩
  refine PySem.W.kat_kind (T := .type "tuple") h1 (by omega) (fun f hm => ?_) (by rfl) ?_
  · obtain ⟨q, ns, rfl, o, its, n, g1, g2, g3, g4⟩ := h3 f hm
    have e : PySem.W.Looks (model prog w) h' (typeOf (.ref q)) o.cls := (PySem.W.Looks.ld g1).andThen .now
    rw [g2] at e
    exact e
  · have e : (Value.type "tuple" != Value.type "tuple") = false := by first | decide +kernel | rfl | decide
    rw [e]
    exact hq
theorem sorted_ents {l : Addr} {vs : List Value} {k : Value → List Int} {E : Value → Shared → Prop} {Q : Value → Shared → Prop} (hu : A.units + 10 < cLine) (hl : s.heap.IsList l vs.toArray) (hz : vs.length ≤ sizeLine) (hp : ∀ v ∈ vs, IsEnt s.heap v (k v)) (hi : ∀ v ∈ vs, ∀ u ∈ vs, k v = k u → v = u)
    (h : ∀ (h' : Heap) (d : Addr) (out : List Value), SrtO.Srtd (fun v u => HT.lexLt (k v) (k u)) out → SrtO.Stb (fun v u => HT.lexLt (k v) (k u)) out vs → (∀ b o, s.heap.get? b = some o → h'.get? b = some o) → s.heap.objs.size ≤ d → (∃ n, h'.get? d = some (seqObj "list" out.toArray n)) → Q (.ref d) { s with heap := h' }) :
    wpAny (model prog w) A (call (.builtin "sorted") [.ref l]) Q E s := by
  refine SrtO.sorted_ord (swo_key k) hl hz (fun h2 h₁ a ha kk => ?_) fun out hs hb => ?_
  · refine ents_sortable (s := { s with heap := h₁ }) (by
      show A.units + 1 + 1 + 1 < cLine
      omega) (by omega) (fun v hm => (hp v hm).keeps fun b o e _ => (kk b o e).2) hi fun o e => ?_
    have e' : some o = some (seqObj "list" vs.toArray 0) := e.symm.trans ha
    cases e'
    intro c
    exact absurd (Value.type.inj c) (by decide)
  · exact h _ _ out hs hb (fun b o e => sortedAll_old e) (Nat.le_succ _) (sortedAll_at s.heap vs out.toArray)
/-! ### sorted: tuples of integers of any lengths -/
theorem one_lt_ti {q q' : Addr} {a b : List Int} {x : Bool} (h1 : IsTI s.heap q a) (h2 : IsTI s.heap q' b) (hu : A.units + 1 < cLine) {E : Value → Shared → Prop} {Q : Bool → Shared → Prop} (h : Q (HT.lexLt a b) s) : wpAny (model prog w) A (oneLt' x (.ref q) (.ref q')) Q E s := by
  cases x with
  | false => exact ti_lt h1 h2 (by omega) h
  | true =>
    obtain ⟨⟨cls, dd, data, sl⟩, i1, n1, a1, a2, a3, a4⟩ := h1
    obtain ⟨⟨cls2, dd2, data2, sl2⟩, i2, n2, b1, b2, b3, b4⟩ := h2
    simp only at a2 a3 b2 b3
    subst a2 a3 b2 b3
    rw [oneLt'_eq]
    simp only [if_true]
    refine wpAny_bind (wpAny_cRoomFor (by omega) ?_)
    refine wpAny_bind (wpAny_callSpecialIfBound?_slot (name := Str.ofString "__lt__") ⟨_, a1, rfl⟩ PySem.F.slot_tuple_lt (call_meets PySem.F.slot_tuple_lt ⟨_, a1, rfl⟩ PySem.F.entry_tuple_lt (PySem.F.args_tuple_lt_2 _ _) (HT.tuple_lt_ints q q' i1.toArray i2.toArray n1 n2 dd dd2 sl sl2 a b (by simpa using a4) (by simpa using b4)) ⟨a1, b1, ?_⟩))
    exact wpAny_truthy_bool h
theorem ti_lex {fin : Bool} {Q : Bool → Shared → Prop} : ∀ {vs us : List Value} {a b : List Int}, IntsAre vs a → IntsAre us b → (i : Nat) → (hf : a.length + us.length = a.length + us.length) → (∀ r, (∀ c d : List Int, c.length = a.length → d.length = b.length → True) → (r = HT.lexLt a b ∨ (r = fin ∧ (a.length ≤ b.length ∨ b.length ≤ a.length) ∧ HT.lexLt a b = decide (a.length < b.length) ∧ a.take b.length = b.take a.length)) → Q r s) →
    PySem.W.KatLex prog w A true fin Q (vs.zip us) i s
  | _, _, [], b, .nil, hb, i, _, h => by
    show Q fin s
    refine h fin (fun _ _ _ _ => trivial) (.inr ⟨rfl, .inl (Nat.zero_le _), ?_, by simp⟩)
    cases b with
    | nil => rfl
    | cons y ys => rfl
  | _, _, x :: a, [], .cons _ _ ra, .nil, i, _, h => by
    show Q fin s
    exact h fin (fun _ _ _ _ => trivial) (.inr ⟨rfl, .inr (Nat.zero_le _), rfl, by simp⟩)
  | _, _, x :: a, y :: b, .cons _ t ra, .cons _ u rb, i, _, h => by
    show PySem.W.KatLex prog w A true fin Q ((.int x t, .int y u) :: _) i s
    refine PySem.W.kat_cons (SeqAt.EqAt.int_int x t y u prog w _ _ ?_)
    refine PySem.W.kat_go (fun e1 => ?_) (fun e1 => ?_)
    · have ex : x = y := by simpa using e1
      subst ex
      refine PySem.W.kat_yes (ti_lex ra rb (i + 1) rfl fun r _ hr => h r (fun _ _ _ _ => trivial) ?_)
      rw [HT.lexLt_cons, if_pos rfl]
      rcases hr with hr | ⟨hr, h1, h2, h3⟩
      · exact .inl hr
      · refine .inr ⟨hr, ?_, ?_, ?_⟩
        · rw [List.length_cons, List.length_cons]
          omega
        · rw [h2, List.length_cons, List.length_cons]
          exact decide_eq_decide.mpr (by omega)
        · rw [List.length_cons, List.length_cons, List.take_succ_cons, List.take_succ_cons, h3]
    · have ex : ¬ x = y := by simpa using e1
      refine PySem.W.kat_no ?_
      have e3 : HT.lexLt (x :: a) (y :: b) = decide (x < y) := by rw [HT.lexLt_cons, if_neg ex]
      have hq : Q (decide (x < y)) s := h _ (fun _ _ _ _ => trivial) (.inl e3.symm)
      cases hb : (true && i == 0) with
      | true => exact oneLt_int hq
      | false => exact PySem.W.kat_one _ _ (PyProof.Rows.lt_int hq)
theorem ti_tuples {q q' : Addr} {a b : List Int} (h1 : IsTI s.heap q a) (h2 : IsTI s.heap q' b) {E : Value → Shared → Prop} {Q : Bool → Shared → Prop} (h : Q (HT.lexLt a b) s) : wpAny (model prog w) A (keyLt' (tuples' true) (.ref q) (.ref q')) Q E s := by
  obtain ⟨o1, i1, n1, a1, a2, a3, a4⟩ := h1
  obtain ⟨o2, i2, n2, b1, b2, b3, b4⟩ := h2
  refine PySem.W.kat_lt a1 a3 b1 b3 ?_
  have la := a4.length
  have lb := b4.length
  show PySem.W.KatLex prog w A true (decide (i1.toArray.size < i2.toArray.size)) Q (i1.zip i2) 0 s
  refine ti_lex a4 b4 0 rfl fun r _ hr => ?_
  rcases hr with hr | ⟨hr, _, h3, _⟩
  · rw [hr]
    exact h
  · rw [hr]
    have e : decide (i1.toArray.size < i2.toArray.size) = HT.lexLt a b := by
      rw [h3, List.size_toArray, List.size_toArray, la, lb]
    rw [e]
    exact h
def TiV (h : Heap) (v : Value) (ns : List Int) : Prop := ∃ q, v = .ref q ∧ IsTI h q ns
theorem ti_firsts {h : Heap} {k : Value → List Int} : ∀ {vs : List Value}, (∀ v ∈ vs, TiV h v (k v)) → (∀ v ∈ vs, k v ≠ []) → ∃ fs : List Value, PySem.W.KatTups h vs fs ∧ fs.length = vs.length ∧ ∀ f ∈ fs, ∃ x t, f = Value.int x t
  | [], _, _ => ⟨[], PySem.W.KatTups.nil, rfl, fun _ hm => by simp at hm⟩
  | v :: vs, hp, hn => by
    obtain ⟨fs, h1, h2, h3⟩ := ti_firsts (vs := vs) (fun v' hm => hp v' (List.mem_cons_of_mem _ hm)) (fun v' hm => hn v' (List.mem_cons_of_mem _ hm))
    obtain ⟨q, e, o, its, n, ho, hc, hd, ht⟩ := hp v (List.mem_cons_self ..)
    have hne := hn v (List.mem_cons_self ..)
    subst e
    revert hne ht
    generalize k (.ref q) = ns
    intro ht hne
    cases ht with
    | nil => exact absurd rfl hne
    | @cons x t vs' ns' r =>
      refine ⟨.int x t :: fs, PySem.W.KatTups.cons ho hc hd rfl h1, by rw [List.length_cons, List.length_cons, h2], fun f hm => ?_⟩
      rcases List.mem_cons.mp hm with rfl | hm
      · exact ⟨x, t, rfl⟩
      · exact h3 f hm
theorem ti_first {v : Value} {ns : List Int} (h : TiV s.heap v ns) {E : Value → Shared → Prop} {Q : Option Value → Shared → Prop} (q : ∀ r : Option Value, (r.isSome = true ↔ ns ≠ []) → Q r s) : wpAny (model prog w) A (firstOfTuple' v) Q E s := by
  obtain ⟨a, rfl, o, its, n, ho, hc, hd, ht⟩ := h
  rw [PySem.W.kas_first_eq]
  refine wpAny_bind (PySem.W.Looks.here (show PySem.W.Looks (model prog w) s.heap (typeOf (.ref a)) o.cls from (PySem.W.Looks.ld ho).andThen .now) ?_)
  rw [hc, if_neg (by first | decide | simp)]
  refine wpAny_bind (listItems_at ho hd (wpAny_pure ?_))
  refine q _ ?_
  cases ht with
  | nil => simp
  | cons x t r => simp
theorem ti_firstsM {k : Value → List Int} {E : Value → Shared → Prop} : ∀ {vs : List Value} {Q : List (Option Value) → Shared → Prop}, (∀ v ∈ vs, TiV s.heap v (k v)) → (∀ rs : List (Option Value), rs.length = vs.length → (∀ (i : Nat) (v : Value) (r : Option Value), vs[i]? = some v → rs[i]? = some r → (r.isSome = true ↔ k v ≠ [])) → Q rs s) → wpAny (model prog w) A (vs.mapM firstOfTuple') Q E s
  | [], Q, _, h => by
    rw [List.mapM_nil]
    exact wpAny_pure (h [] rfl fun i v r e => by simp at e)
  | v :: vs, Q, hp, h => by
    rw [List.mapM_cons]
    refine wpAny_bind (ti_first (hp v (List.mem_cons_self ..)) fun r hr => ?_)
    refine wpAny_bind (ti_firstsM (vs := vs) (fun v' hm => hp v' (List.mem_cons_of_mem _ hm)) fun rs hl hrs => wpAny_pure (h (r :: rs) (by rw [List.length_cons, List.length_cons, hl]) fun i v' r' e1 e2 => ?_))
    cases i with
    | zero =>
      cases (show some v = some v' from e1)
      cases (show some r = some r' from e2)
      exact hr
    | succ i => exact hrs i v' r' (by simpa using e1) (by simpa using e2)
theorem ti_types {E : Value → Shared → Prop} {k : Value → List Int} {vs : List Value} {Q : Option Value → Shared → Prop} (h0 : 0 < vs.length) (hp : ∀ v ∈ vs, TiV s.heap v (k v)) (h : Q (some (.type "tuple")) s) : wpAny (model prog w) A (oneTypeOnly' vs.toArray) Q E s := by
  obtain ⟨v1, vr, rfl⟩ : ∃ v1 vr, vs = v1 :: vr := by
    match vs, h0 with
    | v1 :: vr, _ => exact ⟨v1, vr, rfl⟩
  rw [oneTypeOnly'_eq, List.mapM_toArray, map_eq_pure_bind]
  refine wpAny_bind (wpAny_bind (PySem.W.kas_mapM (r := .type "tuple") _ (fun v hv Q' hq => ?_) (wpAny_pure ?_)))
  · obtain ⟨a, rfl, o, its, n, ho, hc, hd, ht⟩ := hp v hv
    have e : PySem.W.Looks (model prog w) s.heap (typeOf (.ref a)) o.cls := (PySem.W.Looks.ld ho).andThen .now
    rw [hc] at e
    exact e.here hq
  · have hall2 : ((List.map (fun _ => Value.type "tuple") (v1 :: vr)).toArray.all fun x => x == Value.type "tuple") = true := by
      simp only [List.all_toArray, List.all_map, List.all_eq_true]
      intro _ _
      rfl
    have h1 : (List.map (fun _ => Value.type "tuple") (v1 :: vr)).toArray[0]? = some (Value.type "tuple") := by simp
    rw [h1]
    simp only [hall2, if_true]
    exact wpAny_pure h
theorem ti_kind {k : Value → List Int} {vs : List Value} (h0 : 0 < vs.length) (hp : ∀ v ∈ vs, TiV s.heap v (k v)) : ∃ κ, (κ = tuples' true ∨ κ = general' ∨ κ = oneType') ∧ ∀ (Q : SortKind → Shared → Prop) (E : Value → Shared → Prop), Q κ s → wpAny (model prog w) A (keyKind' vs.toArray) Q E s := by
  by_cases hn : ∀ v ∈ vs, k v ≠ []
  · obtain ⟨fs, h1, h2, h3⟩ := ti_firsts hp hn
    refine ⟨tuples' true, .inl rfl, fun Q E hq => ?_⟩
    refine PySem.W.kat_kind (T := .type "int") h1 (by omega) (fun f hm => ?_) (by rfl) ?_
    · obtain ⟨x, t, rfl⟩ := h3 f hm
      exact PySem.W.Looks.now
    · have e : (Value.type "int" != Value.type "tuple") = true := by first | decide +kernel | rfl | decide
      rw [e]
      exact hq
  · obtain ⟨v, hv, hve⟩ : ∃ v ∈ vs, k v = [] := by
      refine Classical.byContradiction fun q => hn fun v hv e => q ⟨v, hv, e⟩
    obtain ⟨i, hi, hiv⟩ := List.getElem_of_mem hv
    have hiv : vs[i]? = some v := by rw [List.getElem?_eq_getElem hi, hiv]
    have no : ∀ rs : List (Option Value), rs.length = vs.length → (∀ (i : Nat) (v : Value) (r : Option Value), vs[i]? = some v → rs[i]? = some r → (r.isSome = true ↔ k v ≠ [])) → (rs.toArray.all fun x => x.isSome) = false := fun rs hl hrs => by
      cases hh : (rs.toArray.all fun x => x.isSome) with
      | false => rfl
      | true =>
        rw [List.all_toArray, List.all_eq_true] at hh
        have hir : i < rs.length := by omega
        have h1 := hrs i v rs[i] hiv (List.getElem?_eq_getElem hir)
        exact absurd hve (h1.mp (hh _ (List.getElem_mem hir)))
    by_cases hf : ∀ v0, vs[0]? = some v0 → k v0 ≠ []
    · refine ⟨general', .inr (.inl rfl), fun Q E hq => ?_⟩
      rw [kat_kind_eq, List.mapM_toArray, map_eq_pure_bind]
      refine wpAny_bind (wpAny_bind (ti_firstsM hp fun rs hl hrs => wpAny_pure ?_))
      rw [if_neg (by rw [no rs hl hrs]; decide)]
      have h00 : 0 < rs.length := by omega
      have e0 : (rs.toArray[0]?.bind id).isSome = true := by
        have hv0 : vs[0]? = some vs[0] := List.getElem?_eq_getElem h0
        have := (hrs 0 _ rs[0] hv0 (List.getElem?_eq_getElem h00)).mpr (hf _ hv0)
        simp [h00, this]
      rw [if_pos e0]
      exact wpAny_pure hq
    · obtain ⟨v0, hv0, hk0⟩ : ∃ v0, vs[0]? = some v0 ∧ k v0 = [] := by
        refine Classical.byContradiction fun q => hf fun v hv e => q ⟨v, hv, e⟩
      refine ⟨oneType', .inr (.inr rfl), fun Q E hq => ?_⟩
      rw [kat_kind_eq, List.mapM_toArray, map_eq_pure_bind]
      refine wpAny_bind (wpAny_bind (ti_firstsM hp fun rs hl hrs => wpAny_pure ?_))
      rw [if_neg (by rw [no rs hl hrs]; decide)]
      have h00 : 0 < rs.length := by omega
      have e0 : ¬ (rs.toArray[0]?.bind id).isSome = true := by
        have h1 := hrs 0 _ rs[0] hv0 (List.getElem?_eq_getElem h00)
        have h2 : ¬ rs[0].isSome = true := fun z => absurd hk0 (h1.mp z)
        simp [h00]
        simpa using h2
      rw [if_neg e0]
      refine wpAny_bind (ti_types h0 hp ?_)
      exact wpAny_pure hq
theorem ti_cmp {vs : List Value} {k : Value → List Int} {κ : SortKind} (hκ : κ = tuples' true ∨ κ = general' ∨ κ = oneType') (hu : A.units + 1 < cLine) (hp : ∀ v ∈ vs, TiV s.heap v (k v)) : SrtO.Cmp prog w A s κ (fun p => p.1 ∈ vs) (SrtO.lt2 fun v u => HT.lexLt (k v) (k u)) := by
  intro p q hm hm'
  obtain ⟨a, e1, h1⟩ := hp _ hm
  obtain ⟨b, e2, h2⟩ := hp _ hm'
  show wpAny (model prog w) A (keyLt' κ p.1 q.1) (fun r s' => s' = s ∧ r = HT.lexLt (k p.1) (k q.1)) (fun _ _ => False) s
  generalize k p.1 = x at h1 ⊢
  generalize k q.1 = y at h2 ⊢
  rw [e1, e2]
  rcases hκ with e | e | e
  · subst e
    exact ti_tuples h1 h2 ⟨rfl, rfl⟩
  · subst e
    exact one_lt_ti (x := false) h1 h2 hu ⟨rfl, rfl⟩
  · subst e
    exact one_lt_ti (x := true) h1 h2 hu ⟨rfl, rfl⟩
theorem IsTI.of_keeps {h h' : Heap} {v : Value} {ns : List Int} (x : TiV h v ns) (k : ∀ b o, h.get? b = some o → o.cls = .type "tuple" → h'.get? b = some o) : TiV h' v ns := by
  obtain ⟨q, e, t⟩ := x
  exact ⟨q, e, t.keeps k⟩
theorem tis_sortable {a : Addr} {vs : List Value} {k : Value → List Int} (hu : A.units + 1 < cLine) (h0 : 0 < vs.length) (hp : ∀ v ∈ vs, TiV s.heap v (k v)) (ha : ∀ o, s.heap.get? a = some o → o.cls ≠ .type "tuple") : SrtO.SortableO prog w A s a vs fun v u => HT.lexLt (k v) (k u) := by
  intro h' keep
  have kp : ∀ b o, s.heap.get? b = some o → o.cls = .type "tuple" → h'.get? b = some o := fun b o e c => keep b o (fun z => by subst z; exact ha o e c) e
  have hp' : ∀ v ∈ vs, TiV h' v (k v) := fun v hm => IsTI.of_keeps (hp v hm) kp
  obtain ⟨κ, hκ, hk⟩ := ti_kind (prog := prog) (w := w) (A := A) (s := { s with heap := h' }) h0 hp'
  exact ⟨κ, hk, ti_cmp hκ hu hp'⟩
/-- the keys of a dict, one by one -/
theorem rawSrc {d : Addr} {es : Array DictEntry} {ep : Nat} (lo : (d == sysModules) = false) : KdlSrc prog w "dict" d d es.size (fun i v => ∃ en, es[i]? = some en ∧ v = en.key) (fun h => DT.Raw h d es ep) where
  type := fun _ hm => hm.typeIs
  there := fun _ hm => ⟨hm.lt, hm.lt⟩
  keep := fun _ _ hm hk => hm.at' fun o e => hk d (.inl rfl) o e
  notList := by decide
  notTuple := by decide
  hint := fun _ _ _ _ hm hq => kdl_hint_dict hm.typeIs hq
  iter := fun A s hh hm => by
    obtain ⟨o, ho, hc, hdat⟩ := id hm
    refine ⟨_, fun i h => h.IsKeyIter s.heap.objs.size d i es.size ep ∧ DT.Raw h d es ep, fun _ _ hq => L2.iter_keys lo ho hc hdat hq, ?_, ⟨⟨_, Heap.get?_push_size _ rfl, rfl, rfl⟩, hm.push _⟩⟩
    have hne : d ≠ s.heap.objs.size := Nat.ne_of_lt hm.lt
    refine ⟨fun b hb => by simp at hb; simp [hb], fun i h h' st hk => ⟨st.1.at fun o e => hk _ (by simp) o e, st.2.at' fun o e => hk d (by simp) o e⟩, fun i s Q E hi st hQ => ?_, fun s Q E st hQ => ?_, fun i s Q E st hQ => wpAny_pyIter_keyiter st.1 hQ⟩
    · obtain ⟨od, hod, hoc, hdd⟩ := id st.2
      refine L2.next_key_item st.1 hod hdd rfl (Array.getElem?_eq_getElem hi) fun h' hit' hs' => ?_
      exact hQ _ h' s.toks ⟨_, Array.getElem?_eq_getElem hi, rfl⟩ ⟨hit', st.2.at' fun o e => hs'.extBut d o hne e⟩ fun b o hb e => hs'.extBut b o (fun h => hb (by simp [h])) e
    · obtain ⟨od, hod, hoc, hdd⟩ := id st.2
      exact L2.next_key_end hh st.1 hod hdd rfl (Nat.le_refl _) fun h' he' => hQ h' s.toks fun b o hb e => he' b o (fun h => hb (by simp [h])) e
end
/-! ### .. as rules of the layer -/
section
open PyProof.Rows PySem.W PySem.Calls
theorem ints_uniq : ∀ {vs : List Value} {a b : List Int}, IntsAre vs a → IntsAre vs b → a = b
  | _, _, _, .nil, .nil => rfl
  | _, _, _, .cons n t r, .cons _ _ r2 => by rw [ints_uniq r r2]
theorem IsTI.uniq {h : Heap} {q : Addr} {a b : List Int} (x : IsTI h q a) (y : IsTI h q b) : a = b := by
  obtain ⟨o, i, n, h1, h2, h3, h4⟩ := x
  obtain ⟨o', i', n', g1, g2, g3, g4⟩ := y
  rw [h1] at g1
  cases g1
  rw [h3] at g3
  have e : i = i' := by
    injection g3 with e1 e2
    simpa using e1
  subst e
  exact ints_uniq h4 g4
theorem IsEnt.uniq {h : Heap} {v : Value} {a b : List Int} (x : IsEnt h v a) (y : IsEnt h v b) : a = b := by
  obtain ⟨t, q, u, o, n, e, h1, h2, h3, h4⟩ := x
  obtain ⟨t', q', u', o', n', e', g1, g2, g3, g4⟩ := y
  rw [e] at e'
  cases e'
  rw [h1] at g1
  cases g1
  rw [h3] at g3
  have e : q = q' := by
    injection g3 with e1 e2
    simp at e1
    exact e1.1
  subst e
  exact h4.uniq g4
open Classical in
noncomputable def entK (h : Heap) (v : Value) : List Int := if hx : ∃ ns, IsEnt h v ns then Classical.choose hx else []
theorem entK_is {h : Heap} {v : Value} {ns : List Int} (x : IsEnt h v ns) : entK h v = ns := by
  have hx : ∃ ns, IsEnt h v ns := ⟨ns, x⟩
  unfold entK
  rw [dif_pos hx]
  exact (Classical.choose_spec hx).uniq x
open Classical in
noncomputable def tiK (h : Heap) (v : Value) : List Int := if hx : ∃ ns, TiV h v ns then Classical.choose hx else []
theorem TiV.uniq {h : Heap} {v : Value} {a b : List Int} (x : TiV h v a) (y : TiV h v b) : a = b := by
  obtain ⟨q, e, t⟩ := x
  obtain ⟨q', e', t'⟩ := y
  rw [e] at e'
  cases e'
  exact t.uniq t'
theorem tiK_is {h : Heap} {v : Value} {ns : List Int} (x : TiV h v ns) : tiK h v = ns := by
  have hx : ∃ ns, TiV h v ns := ⟨ns, x⟩
  unfold tiK
  rw [dif_pos hx]
  exact (Classical.choose_spec hx).uniq x
structure Ent where
  t : Addr
  q : Addr
  u : Addr
  k : List Int
def EntAt (H : Hp) (e : Ent) : Prop := H e.t = some (.tup [.ref e.q, .ref e.u]) ∧ H e.q = some (.tup (e.k.map V.int))
variable {X : Cx}
theorem ti_of {pins : List (Addr × Obj)} {σ : L2.St} {H : Hp} {s : Shared} (I : L2.Inv X pins σ H s) {q : Addr} {ns : List Int} (h : H q = some (.tup (ns.map V.int))) : IsTI s.heap q ns := by
  obtain ⟨_, its, rv, o, ho, hc, n, hd⟩ := I.hok _ _ h
  exact ⟨o, its, n, ho, hc, hd, rv.ints⟩
theorem ent_of {pins : List (Addr × Obj)} {σ : L2.St} {H : Hp} {s : Shared} (I : L2.Inv X pins σ H s) {e : Ent} (h : EntAt H e) : IsEnt s.heap (.ref e.t) e.k := by
  obtain ⟨h1, h2⟩ := h
  obtain ⟨_, its, rv, o, ho, hc, n, hd⟩ := I.hok _ _ h1
  obtain ⟨u1, u2, rfl, r1, r2⟩ := vals2 rv
  cases r1
  cases r2
  exact ⟨e.t, e.q, e.u, o, n, rfl, ho, hc, hd, ti_of I h2⟩
theorem vals_refs {α : Type} (f : α → Addr) : ∀ {l : List α} {us : List Value}, Vals (l.map fun z => V.ref (f z)) us → us = l.map fun z => Value.ref (f z)
  | [], us, h => by cases h; rfl
  | z :: l, us, h => by
    cases h with
    | cons r t =>
      cases r
      rw [vals_refs f t]
      rfl
theorem vals_refsB {α : Type} (f : α → Addr) : ∀ (l : List α), Vals (l.map fun z => V.ref (f z)) (l.map fun z => Value.ref (f z))
  | [] => .nil
  | z :: l => .cons rfl (vals_refsB f l)
theorem perm_up {α β : Type} (f : α → β) : ∀ {out : List β} {l : List α}, out.Perm (l.map f) → ∃ zs : List α, zs.Perm l ∧ zs.map f = out := by
  intro out l h
  generalize hm : l.map f = m at h
  induction h generalizing l with
  | nil =>
    cases l with
    | nil => exact ⟨[], .refl _, rfl⟩
    | cons x l => cases hm
  | @cons b out m p ih =>
    cases l with
    | nil => cases hm
    | cons x l =>
      injection hm with e1 e2
      obtain ⟨zs, pz, ez⟩ := ih e2
      exact ⟨x :: zs, pz.cons x, by rw [List.map_cons, e1, ez]⟩
  | swap b c m =>
    cases l with
    | nil => cases hm
    | cons x l =>
      cases l with
      | nil => cases hm
      | cons y l =>
        injection hm with e1 e2
        injection e2 with e2 e3
        exact ⟨y :: x :: l, .swap _ _ _, by rw [List.map_cons, List.map_cons, e1, e2, e3]⟩
  | trans p1 p2 ih1 ih2 =>
    obtain ⟨z2, q2, e2⟩ := ih2 hm
    obtain ⟨z1, q1, e1⟩ := ih1 e2
    exact ⟨z1, q1.trans q2, e1⟩
/-- sorted(xs), xs a list of pairs of a tuple of integers and an object, no two with the same integers -/
def rSortedE (K : PySem.W.Frag) : List V → Hp → VK → Prop := fun vs H Q => ∃ (a : Addr) (es : List Ent), vs = [V.ref a] ∧ SqL K H a (es.map fun e => V.ref e.t) ∧ (∀ e ∈ es, EntAt H e) ∧ (es.map (·.k)).Nodup ∧
  ∀ (es' : List Ent) (p : Addr), es'.Perm es → (es'.map (·.k)).Pairwise (fun x y => HT.lexLt x y = true) → H p = none → Q (.ref p) (upd H p (.lst (es'.map fun e => V.ref e.t)))
theorem strict_of {l : List (List Int)} (h1 : l.Pairwise (fun x y => HT.lexLt y x = false)) (h2 : l.Nodup) : l.Pairwise (fun x y => HT.lexLt x y = true) := by
  refine (List.Pairwise.and h1 h2).imp fun {x y} ⟨a, b⟩ => ?_
  cases h : HT.lexLt x y with
  | true => rfl
  | false => exact absurd (lexLt_tri _ _ h a) b
theorem cr_sortedE (hu : X.A.units + 64 < cLine) : CallR X (.builtin "sorted") (rSortedE X.K) := by
  intro pins s σ H vs us Q I r h
  obtain ⟨a, es, rfl, hs, he, hn, q⟩ := h
  obtain ⟨its, rv, hl, hz⟩ := I.list hs
  obtain ⟨u, rfl, ru⟩ := vals1 r
  obtain rfl : u = Value.ref a := ru
  have ei := vals_refs (fun e : Ent => e.t) rv
  have at_ : ∀ v ∈ its, ∃ e ∈ es, v = .ref e.t ∧ entK s.heap v = e.k ∧ IsEnt s.heap v e.k := fun v hv => by
    rw [ei] at hv
    obtain ⟨e, hm, rfl⟩ := List.mem_map.mp hv
    have x := ent_of I (he e hm)
    exact ⟨e, hm, rfl, entK_is x, x⟩
  have inj : ∀ e ∈ es, ∀ f ∈ es, e.k = f.k → e = f := fun e h1 f h2 hk => by
    obtain ⟨i, hi, ei⟩ := List.getElem_of_mem h1
    obtain ⟨j, hj, ej⟩ := List.getElem_of_mem h2
    have := List.pairwise_iff_getElem.mp hn
    rcases Nat.lt_trichotomy i j with c | c | c
    · have q := this i j (by rw [List.length_map]; exact hi) (by rw [List.length_map]; exact hj) c
      rw [List.getElem_map, List.getElem_map, ei, ej] at q
      exact absurd hk q
    · subst c
      exact ei.symm.trans ej
    · have q := this j i (by rw [List.length_map]; exact hj) (by rw [List.length_map]; exact hi) c
      rw [List.getElem_map, List.getElem_map, ei, ej] at q
      exact absurd hk.symm q
  refine sorted_ents (k := entK s.heap) (by omega) hl.isList (by rw [← rv.length]; exact hz) (fun v hv => ?_) (fun v hv u hu' hk => ?_) fun h' d out h1 h2 kp hd hn' => ?_
  · obtain ⟨e, _, _, e2, x⟩ := at_ v hv
    rw [e2]
    exact x
  · obtain ⟨e, m1, e1, e2, _⟩ := at_ v hv
    obtain ⟨f, m2, f1, f2, _⟩ := at_ u hu'
    rw [e2, f2] at hk
    rw [e1, f1, inj e m1 f m2 hk]
  · have pe := h2.perm
    rw [ei] at pe
    obtain ⟨zs, pz, ez⟩ := perm_up (fun e : Ent => Value.ref e.t) pe
    obtain ⟨n, hn'⟩ := hn'
    have srt : (zs.map (·.k)).Pairwise (fun x y => HT.lexLt y x = false) := by
      have h1' := h1
      rw [← ez] at h1'
      have h1'' := List.pairwise_map.mp h1'
      rw [List.pairwise_map]
      refine List.Pairwise.imp_of_mem (fun {x y} hx hy hxy => ?_) h1''
      have ex := entK_is (ent_of I (he x (pz.mem_iff.mp hx)))
      have ey := entK_is (ent_of I (he y (pz.mem_iff.mp hy)))
      have hxy : HT.lexLt (entK s.heap (.ref y.t)) (entK s.heap (.ref x.t)) = false := hxy
      rw [ex, ey] at hxy
      exact hxy
    have nd : (zs.map (·.k)).Nodup := (pz.map (·.k)).nodup_iff.mpr hn
    refine ⟨.ref d, upd H d (.lst (zs.map fun e => V.ref e.t)), I.laid (t' := s.toks) kp hd ⟨?_, out, n, ?_, hn'⟩, rfl, q zs d pz (strict_of srt nd) (I.hok.fresh hd)⟩
    · rw [List.length_map, pz.length_eq]
      rw [List.length_map] at hz
      exact hz
    · rw [← ez]
      exact vals_refsB (fun e : Ent => e.t) zs
/-- sorted(d), d a dict whose keys are tuples of integers: the keys themselves, in order -/
def rSortedTD : List V → Hp → VK → Prop := fun vs H Q => ∃ (a : Addr) (kvs : List (List L2.Key × V)) (ks : List (List Int)), vs = [.ref a] ∧ H a = some (.dT kvs) ∧ kvs.map (·.1) = ks.map (·.map Sum.inl) ∧
  ∀ (p : Addr) (qs : List (Addr × List Int)), (qs.map (·.2)).Perm ks → (qs.map (·.2)).Pairwise (fun x y => HT.lexLt x y = true) → (∀ z ∈ qs, H z.1 = some (.tup (z.2.map V.int))) → H p = none → Q (.ref p) (upd H p (.lst (qs.map fun z => V.ref z.1)))
theorem kv_ints (ns : List Int) : (ns.map (Sum.inl : Int → L2.Key)).map kV = ns.map V.int := by
  rw [List.map_map]
  rfl
theorem cr_sortedTD (hcalm : X.calm = true) (hu : X.A.units + 64 < cLine) : CallR X (.builtin "sorted") rSortedTD := by
  intro pins s σ H xs us Q I r h
  obtain ⟨a, kvs, ks, rfl, ha, hks, q⟩ := h
  obtain ⟨u, eu, rx⟩ := vals1 r
  subst eu
  cases rx
  obtain ⟨z, lo, xs', rel, o, es, ep, ho, hx, hdat, hes, hn⟩ := (show ObjOk X.prog X.w H s.heap a (.dT kvs) from I.hok a _ ha)
  have l1 : kvs.length = xs'.length := Paired.length rel
  have l2 : es.size = xs'.length := by
    have e := congrArg List.length hes
    rw [Array.length_toList, List.length_map] at e
    exact e
  have l3 : kvs.length = ks.length := by
    have e := congrArg List.length hks
    rw [List.length_map, List.length_map] at e
    exact e
  have hr : DT.Raw s.heap a es ep := ⟨o, ho, hx, hdat⟩
  have at_ : ∀ (j : Nat) (e : Addr × List Int), ((xs'.map (·.2.1)).zip ks)[j]? = some e → H e.1 = some (.tup (e.2.map V.int)) := by
    intro j e hj
    obtain ⟨h1, h2⟩ := List.getElem?_zip_eq_some.mp hj
    rw [List.getElem?_map] at h1
    obtain ⟨x, hx1, hx2⟩ := Option.map_eq_some_iff.mp h1
    have hjl : j < kvs.length := by
      have := (List.getElem?_eq_some_iff.mp hx1).1
      omega
    obtain ⟨b, hb, r1, r2, r3⟩ := L2.paired_get rel (List.getElem?_eq_getElem hjl)
    rw [hx1] at hb
    cases hb
    have hk : (kvs.map (·.1))[j]? = some kvs[j].1 := by rw [List.getElem?_map, List.getElem?_eq_getElem hjl]; rfl
    rw [hks, List.getElem?_map, h2] at hk
    have hk : e.2.map Sum.inl = kvs[j].1 := Option.some.inj hk
    rw [← hx2, r2, ← hk, kv_ints]
  refine Calls.call_function_entry PyProof.Rows.kind_sorted PyProof.Rows.plain_sorted PyProof.Rows.entry_sorted (PyProof.Rows.args_sorted1 _) ?_
  unfold Builtin.«sorted»
  refine wpAny_bind (m := checkCount "sorted" 1 1 _) (wpAny_pure ?_)
  refine wpAny_bind (PySem.W.kdu_collect (A := X.A.in1) (rawSrc (es := es) (ep := ep) lo) (I.ok.hd hcalm) hr (by rw [l2, ← l1]; exact z) fun h' tk acc hk hacc => ?_)
  have hal : acc.toList.length = es.size := by rw [Array.length_toList, hacc.1]
  have hae : acc.toList = ((xs'.map (·.2.1)).zip ks).map fun e => Value.ref e.1 := by
    refine List.ext_getElem? fun j => ?_
    by_cases hj : j < acc.toList.length
    · have hj2 : j < xs'.length := by omega
      obtain ⟨en, he, hv⟩ := hacc.2 j acc.toList[j] (by rw [← Array.getElem?_toList]; exact List.getElem?_eq_getElem hj)
      rw [← Array.getElem?_toList, hes, List.getElem?_map, List.getElem?_eq_getElem hj2] at he
      have he : entryOfKey (tupleKind (mixKind X.prog X.w)) xs'[j] = en := Option.some.inj he
      rw [List.getElem?_eq_getElem hj, hv, ← he, List.getElem?_map]
      have hz : ((xs'.map (·.2.1)).zip ks)[j]? = some (xs'[j].2.1, ks[j]'(by omega)) := by
        rw [List.getElem?_zip_eq_some]
        exact ⟨by rw [List.getElem?_map, List.getElem?_eq_getElem hj2]; rfl, List.getElem?_eq_getElem (by omega)⟩
      rw [hz]
      rfl
    · rw [List.getElem?_eq_none (by omega), List.getElem?_eq_none]
      rw [List.length_map, List.length_zip, List.length_map]
      omega
  have I1 : L2.Inv X pins σ H { s with heap := h', toks := tk } := I.kept hk
  refine wpAny_bind (wpAny_newList ?_ (by rw [hal, l2, ← l1]; exact z))
  have hoL : (h'.push (seqObj "list" acc.toList.toArray 0)).get? h'.objs.size = some (seqObj "list" acc.toList.toArray 0) := Heap.get?_push_size _ rfl
  have hkeep : ∀ b o, h'.get? b = some o → b ≠ h'.objs.size ∧ (h'.push (seqObj "list" acc.toList.toArray 0)).get? b = some o := fun b o e => ⟨Nat.ne_of_lt (Heap.lt_size e), Heap.get?_push_of_some _ e⟩
  show wpAny _ _ _ _ _ { s with heap := h'.push (seqObj "list" acc.toList.toArray 0), toks := tk }
  have tis : ∀ v ∈ acc.toList, TiV s.heap v (tiK s.heap v) := fun v hv => by
    rw [hae] at hv
    obtain ⟨e, hm, rfl⟩ := List.mem_map.mp hv
    obtain ⟨j, hj⟩ := List.mem_iff_getElem?.mp hm
    have x : TiV s.heap (.ref e.1) e.2 := ⟨e.1, rfl, ti_of I (at_ j e hj)⟩
    rw [tiK_is x]
    exact x
  refine wpAny_bind (wpAny_holding (wpAny_call_entry PyProof.Rows.slot_list_sort ⟨_, hoL, rfl⟩ PyProof.Rows.entry_list_sort
    (SrtO.list_sort_ord (s := { s with heap := h'.push (seqObj "list" acc.toList.toArray 0), toks := tk }) (swo_key (tiK s.heap)) hoL (by rw [hal, l2, ← l1]; exact z) (fun h2 => ?_) fun out hs hb => ⟨_, rfl, ?_⟩) (PyProof.Rows.args_list_sort _)))
  · refine tis_sortable (by
      show X.A.units + 1 + 1 + 1 < cLine
      omega) (by omega) (fun v hv => IsTI.of_keeps (tis v hv) fun b o e _ => (hkeep b o (hk b o e)).2) fun o e => ?_
    have e' : some o = some (seqObj "list" acc.toList.toArray 0) := e.symm.trans hoL
    cases e'
    intro c
    exact absurd (Value.type.inj c) (by decide)
  · have pe := hb.perm
    rw [hae] at pe
    obtain ⟨zs, pz, ez⟩ := perm_up (fun e : Addr × List Int => Value.ref e.1) pe
    obtain ⟨e', he'⟩ := PyProof.Rows.sortedHeap_at (vs := acc.toList) (out := out.toArray) hoL
    have hzk : ∀ e ∈ zs, H e.1 = some (.tup (e.2.map V.int)) := fun e hm => by
      obtain ⟨j, hj⟩ := List.mem_iff_getElem?.mp (pz.mem_iff.mp hm)
      exact at_ j e hj
    have hks2 : ((xs'.map (·.2.1)).zip ks).map (·.2) = ks := List.map_snd_zip (by rw [List.length_map]; omega)
    have pks : (zs.map (·.2)).Perm ks := by
      have q := pz.map (·.2)
      rw [hks2] at q
      exact q
    have nd : ks.Nodup := by
      have e1 : xs'.map (·.1) = ks.map (·.map Sum.inl) := by
        rw [← hks]
        clear hn hes l1 l2 l3 at_ hae hal hacc tis pe pz hks2 hks ha z
        induction rel with
        | nil => rfl
        | cons r t ih =>
          rw [List.map_cons, List.map_cons, ih, r.1]
      rw [e1] at hn
      exact List.Pairwise.of_map _ (fun a b h e => h (congrArg _ e)) hn
    have srt : (zs.map (·.2)).Pairwise (fun x y => HT.lexLt y x = false) := by
      have h1' := hs
      rw [← ez] at h1'
      have h1'' := List.pairwise_map.mp h1'
      rw [List.pairwise_map]
      refine List.Pairwise.imp_of_mem (fun {x y} hx hy hxy => ?_) h1''
      have ex := tiK_is (h := s.heap) (v := .ref x.1) ⟨x.1, rfl, ti_of I (hzk x hx)⟩
      have ey := tiK_is (h := s.heap) (v := .ref y.1) ⟨y.1, rfl, ti_of I (hzk y hy)⟩
      have hxy : HT.lexLt (tiK s.heap (.ref y.1)) (tiK s.heap (.ref x.1)) = false := hxy
      rw [ex, ey] at hxy
      exact hxy
    have hn0 : H h'.objs.size = none := I1.hok.fresh (Nat.le_refl _)
    refine wpAny_pure ⟨_, rfl, .ref h'.objs.size, upd H h'.objs.size (.lst (zs.map fun z => V.ref z.1)), I1.laid (t' := tk) (fun b u e => ?_) (Nat.le_refl _) ⟨?_, out, e', ?_, he'⟩, rfl, q h'.objs.size zs pks (strict_of srt (pks.nodup_iff.mpr nd)) hzk hn0⟩
    · exact (PyProof.Rows.sortedHeap_old (hkeep b u e).1 (Heap.lt_size (hkeep b u e).2)).trans (hkeep b u e).2
    · have e1 := pz.length_eq
      rw [List.length_map, e1, List.length_zip, List.length_map]
      omega
    · rw [← ez]
      exact vals_refsB (fun e : Addr × List Int => e.1) zs
end

local macro_rules | `(tactic| walk_at "rd1") => `(tactic| first
  | (with_reducible refine r_sl ?_)
  | (with_reducible refine r_part ?_)
  | (with_reducible refine r_some ?_)
  | (with_reducible refine r_nopart ?_)
  | (with_reducible refine r_rng2 ?_)
  | (with_reducible refine r_rng3 ?_)
  | (with_reducible refine r_itL ?_)
  | (with_reducible refine r_itT ?_)
  | (with_reducible refine r_lcT ?_)
  | (with_reducible refine r_lcL ?_)
  | (with_reducible refine r_lc0 ?_))
local macro_rules | `(tactic| walk_at "ri1") => `(tactic| first
  | (with_reducible refine r_sl ?_)
  | (with_reducible refine r_part ?_)
  | (with_reducible refine r_some ?_)
  | (with_reducible refine r_nopart ?_)
  | (with_reducible refine r_rng2 ?_)
  | (with_reducible refine r_rng3 ?_)
  | (with_reducible refine r_itL ?_)
  | (with_reducible refine r_itT ?_)
  | (with_reducible refine r_lcT ?_)
  | (with_reducible refine r_lcL ?_)
  | (with_reducible refine r_lc0 ?_))

/-! ### more rules: x is a truth, x == a text (x anything), t[::-1] of a tuple -/
section
open PyProof.Rows
theorem op_isB {X : Cx} : OpR X (compareOp .Is) (fun x y H Q => ∃ b, y = .bl b ∧ Q (.bl (decide (x = .bl b))) H) := by
  intro pins s σ H x y v u Q I rx ry h
  obtain ⟨b, rfl, q⟩ := h
  cases (show u = Value.bool b from ry)
  by_cases e : x = .bl b
  · subst e
    cases (show v = Value.bool b from rx)
    exact wpAny_is_self rfl ⟨.bl true, H, I, rfl, by simpa using q⟩
  · have n : plainIs v (.bool b) = true ∧ v ≠ .bool b := by
      cases x with
      | bl c =>
        cases (show v = Value.bool c from rx)
        exact ⟨rfl, fun z => e (by rw [Value.bool.inj z])⟩
      | non =>
        cases (show v = Value.none from rx)
        exact ⟨rfl, fun z => Value.noConfusion z⟩
      | int i =>
        obtain ⟨t, rfl⟩ := rx
        exact ⟨rfl, fun z => Value.noConfusion z⟩
      | str i =>
        obtain ⟨t, rfl⟩ := rx
        exact ⟨rfl, fun z => Value.noConfusion z⟩
      | ref a =>
        cases (show v = Value.ref a from rx)
        exact ⟨rfl, fun z => Value.noConfusion z⟩
      | byt i =>
        obtain ⟨t, rfl⟩ := rx
        exact ⟨rfl, fun z => Value.noConfusion z⟩
      | flt i =>
        obtain ⟨t, rfl⟩ := rx
        exact ⟨rfl, fun z => Value.noConfusion z⟩
      | ty i =>
        cases (show v = Value.type i from rx)
        exact ⟨rfl, fun z => Value.noConfusion z⟩
    exact wpAny_is_other n.1 n.2 ⟨.bl false, H, I, rfl, by simpa [e] using q⟩
theorem op_eqS {X : Cx} (hu : X.A.units < cLine) : OpR X (compareOp .Eq) (fun x y H Q => ∃ (z : Str) (d : PyData), y = .str z ∧ Dp X.K H x d ∧ d.canLay0 = true ∧ PyData.strOk z = true ∧ Q (.bl (PyData.eqv d (.str z))) H) := by
  intro pins s σ H x y v u Q I rx ry h
  obtain ⟨z, d, rfl, hd, ld, lz, q⟩ := h
  obtain ⟨as, r1⟩ := Dp.reads I d x v hd rx
  obtain ⟨bs, r2⟩ := Dp.reads I (.str z) (.str z) u (.str z) ry
  refine SeqAt.compareEq_reads r1 r2 ld lz ?_ ⟨.bl _, H, I, rfl, q⟩
  have e : (PyData.str z).depth = 0 := by simp [PyData.depth]
  rw [e, Nat.min_zero]
  exact hu
/-! t[::-1] -/
theorem sliceApplied_rev {prog : Program} {w : World} {A : Around} {E : Value → Shared → Prop} {s : Shared} {sl : Addr} {vs : Value} {n : Nat} {Q : Int × Int × Nat → Shared → Prop} (hs : s.heap.IsSliceOf sl .none .none vs) (ps : IsPart vs (some (-1)))
    (h : Q ((n : Int) - 1, -1, n) s) : wpAny (model prog w) A (Builtin.Slice.sliceApplied (.ref sl) (pure (n : Int))) Q E s := by
  obtain ⟨os, hos, hcs, hds⟩ := id hs
  unfold Builtin.Slice.sliceApplied Builtin.Slice.sliceFields
  refine wpAny_bind (wpAny_bind (wpAny_field hos hds (x := .none) rfl (wpAny_bind (wpAny_field hos hds (x := .none) rfl (wpAny_bind (wpAny_field hos hds (x := vs) rfl (wpAny_pure ?_)))))))
  refine wpAny_bind (HT.slicePart_ ps ?_)
  show wpAny _ _ (if ((-1 : Int) == 0) = true then _ else _) _ _ s
  rw [if_neg (by decide)]
  refine wpAny_bind (PyProof.Rows.slicePart_none (wpAny_bind (PyProof.Rows.slicePart_none (wpAny_bind (wpAny_pure ?_)))))
  show wpAny _ _ (match Builtin.Slice.sliceAdjust none none (-1) (n : Int) with | (lo, hi) => pure (lo, (-1 : Int), Builtin.Slice.slicePlaces lo hi (-1))) _ _ s
  have e1 : Builtin.Slice.sliceAdjust none none (-1) (n : Int) = ((n : Int) - 1, -1) := rfl
  rw [e1]
  show wpAny _ _ (pure ((n : Int) - 1, (-1 : Int), Builtin.Slice.slicePlaces ((n : Int) - 1) (-1) (-1))) _ _ s
  have e2 : Builtin.Slice.slicePlaces ((n : Int) - 1) (-1) (-1) = n := by
    unfold Builtin.Slice.slicePlaces
    rw [if_neg (by decide)]
    by_cases c : (n : Int) - 1 > -1
    · rw [if_pos c]
      have : ((n : Int) - 1 - -1 - 1) / (- -1) = (n : Int) - 1 := by
        rw [show (- -1 : Int) = 1 by decide, Int.ediv_one]
        omega
      omega
    · rw [if_neg c]
      omega
  rw [e2]
  exact wpAny_pure h
theorem pick_rev (xs : Array Value) : ((List.range xs.size).filterMap fun (k : Nat) => xs[(((xs.size : Int) - 1) + (k : Int) * (-1)).toNat]?).toArray = xs.toList.reverse.toArray := by
  congr 1
  have fm : ∀ (f : Nat → Option Value) (l : List Nat), l.filterMap f = (l.map f).filterMap id := fun f l => by rw [List.filterMap_map]; rfl
  have e : (List.range xs.size).map (fun (k : Nat) => xs[(((xs.size : Int) - 1) + (k : Int) * (-1)).toNat]?) = (List.range xs.size).map fun (k : Nat) => xs[xs.size - 1 - k]? := by
    apply List.map_congr_left
    intro k hk
    have := List.mem_range.mp hk
    show xs[_]? = xs[xs.size - 1 - k]?
    congr 1
    omega
  rw [fm, e, ← fm]
  have e2 : (List.range xs.size).filterMap (fun (k : Nat) => xs[xs.size - 1 - k]?) = ((List.range xs.size).map fun k => xs.size - 1 - k).filterMap (fun k => xs[k]?) := by
    rw [List.filterMap_map]
    rfl
  rw [e2, PySem.W.krv_range, List.filterMap_reverse, PySem.W.krv_all]
theorem getItem_tuple_rev {prog : Program} {w : World} {A : Around} {E : Value → Shared → Prop} {s : Shared} {t sl : Addr} {items : Array Value} {vs : Value} {Q : Value → Shared → Prop} (ht : IsTup s.heap t items) (hs : s.heap.IsSliceOf sl .none .none vs) (ps : IsPart vs (some (-1)))
    (h : Q (.ref s.heap.objs.size) { s with heap := s.heap.push { cls := .type "tuple", data := .seq items.toList.reverse.toArray } })
    (hsz : items.size ≤ sizeLine) : wpAny (model prog w) A (getItem (.ref t) (.ref sl)) Q E s := by
  have hrev : sizeOk (.seq items.toList.reverse.toArray) := by
    show items.toList.reverse.toArray.size ≤ sizeLine
    rw [List.size_toArray, List.length_reverse, Array.length_toList]
    exact hsz
  obtain ⟨os, hos, hcs, hds⟩ := id hs
  have hTs : s.TypeIs (.ref sl) "slice" := ⟨os, hos, hcs⟩
  unfold getItem
  try with_reducible refine wpAny_holding ?_
  first | refine wpAny_bind (wpAny_pure ?_) | skip
  refine wpAny_bind (wpAny_sequenceKey ht.typeIs (by decide) ?_)
  refine wpAny_bind (wpAny_callSpecial?_slot (name := Str.ofString "__getitem__") ht.typeIs PyProof.Rows.slot_tuple_getitem
    (wpAny_call_entry PyProof.Rows.slot_tuple_getitem ht.typeIs entry_tuple_getitem ?_ (args_tuple_getitem _ _)))
  show wpAny _ _ (Builtin.Tuple.tupleItemsOf (.ref t) >>= _) _ _ s
  refine wpAny_bind (tupleItemsOf_ ht ?_)
  refine wpAny_bind (wpAny_typeOf hTs ?_)
  rw [if_pos (by decide)]
  refine wpAny_bind (sliceApplied_rev hs ps ?_)
  have hno : ¬ (((((items.size : Nat) : Int) - 1) == 0 && (-1 : Int) == 1 && items.size == items.size) = true) := by
    intro q
    rw [Bool.and_eq_true, Bool.and_eq_true] at q
    exact absurd q.1.2 (by decide)
  show wpAny _ _ (if ((((items.size : Nat) : Int) - 1) == 0 && (-1 : Int) == 1 && items.size == items.size) = true then _ else _) _ _ s
  rw [if_neg hno, pick_rev]
  first
    | exact wpAny_bind (m := Builtin.Tuple.tupleExact _) (wpAny_newObj_type (wpAny_pure ⟨_, rfl, wpAny_pure h⟩) hrev)
    | exact wpAny_bind (m := Builtin.Tuple.tupleExact _) (wpAny_newObj_type (wpAny_bind (wpAny_pure (wpAny_pure ⟨_, rfl, wpAny_pure h⟩))) hrev)
    | exact wpAny_bind (wpAny_bind (m := Builtin.Tuple.tupleExact _) (wpAny_newObj_type (wpAny_pure (wpAny_pure ⟨_, rfl, wpAny_pure h⟩)) hrev))
    | exact wpAny_bind (wpAny_bind (m := Builtin.Tuple.tupleExact _) (wpAny_newObj_type (wpAny_pure ⟨_, rfl, wpAny_pure h⟩) hrev))
def tRevT (K : Frg) (te : TE) : TE := fun σ H Q => te σ H fun x H1 => ∃ a xs, x = .ref a ∧ SqT K H1 a xs ∧ ∀ p, H1 p = none → Q (.ref p) (upd H1 p (.tup xs.reverse))
theorem pe_revT {X : Cx} {e : Expr} {te : TE} {k : Nat} {p1 p2 p3 pos : Pos} (he : PE X e te) : PE X (.Subscript e (.Slice none none (some (.UnaryOp .USub (.Constant (.int 1) k p1) p2)) p3) pos) (tRevT X.K te) := by
  refine ⟨fun pins s σ H Q I h => ?_⟩
  refine Subscript_ (thn (he.run pins s σ H _ I h) fun v s1 ⟨x, H1, I1, r1, q1⟩ => ?_)
  obtain ⟨a, xs, ex, hx, q⟩ := q1
  subst ex
  cases r1
  have hst : PO X (some (.UnaryOp .USub (.Constant (.int 1) k p1) p2)) (tPart (tUn (rU fun i => .int (-i)) (tC (.int 1)))) := po_some (pe_un un_neg pe_int)
  have hno : ∀ {s2 : Shared} {H2 : Hp} {R : Value → Shared → Prop} {E : Value → Shared → Prop}, R .none s2 → wpAny (model X.prog X.w) X.A (evalPart none X.env) R E s2 := fun q => wpAny_pure q
  refine wpAny_Slice (hno (H2 := H1) ?_)
  refine hno (H2 := H1) ?_
  refine thn (hst.run pins s1 σ H1 (fun o H4 => o = some (-1) ∧ H4 = H1) I1 ⟨1, rfl, -1, rfl, rfl, rfl⟩) fun vs s4 ⟨o, H4, I4, ps, eo, e4⟩ => ?_
  subst eo e4
  have I5 : Inv X pins σ H4 { s4 with heap := s4.heap.push { cls := .type "slice", data := .fields #[.none, .none, vs] } } := I4.kept (t' := s4.toks) fun b ob q => Heap.get?_push_of_some _ q
  obtain ⟨its, r, ht, hz⟩ := I5.tuple hx
  have hlen := r.length
  show wpAny (model X.prog X.w) X.A (subscriptTail e (.Slice none none (some (.UnaryOp .USub (.Constant (.int 1) k p1) p2)) p3) (.ref a) (.ref s4.heap.objs.size)) (EP X pins σ Q) X.xe { s4 with heap := s4.heap.push { cls := .type "slice", data := .fields #[.none, .none, vs] } }
  refine tail_any (ops := [.ref a, .ref s4.heap.objs.size]) ht.typeIs PyProof.Rows.slot_tuple_getitem.lookup ?_ (by with_unfolding_all rfl)
  refine getItem_tuple_rev ht (Heap.IsSliceOf.new _ .none .none vs) ps ?_ (by rw [List.size_toArray]; omega)
  refine ⟨.ref _, _, I5.laid (t' := s4.toks) (o := .tup xs.reverse) (fun b ob q => Heap.get?_push_of_some _ q) (Nat.le_refl _) ?_, rfl, q _ (I5.hok.fresh (Nat.le_refl _))⟩
  exact ⟨by rw [List.length_reverse]; exact hz, _, r.reverse, IsTup.new _ _⟩
end
section
variable {σ : St} {H : Hp} {Q : VK} {K : Frg}
theorem r_revT {te : TE} (h : te σ H fun x H1 => ∃ a xs, x = .ref a ∧ SqT K H1 a xs ∧ ∀ p, H1 p = none → Q (.ref p) (upd H1 p (.tup xs.reverse))) : tRevT K te σ H Q := h
end

/-! ### anything that is_value is asked about: None, truths, integers, texts, tuples and lists of such, none wider than n (no list at z) -/
mutual
inductive Tg (H : Hp) (z : Addr) (n : Nat) : V → PyData → Prop where
  | non : Tg H z n .non .none
  | bl (b : Bool) : Tg H z n (.bl b) (.bool b)
  | int (i : Int) : Tg H z n (.int i) (.int i)
  | str (x : Str) (h : PyData.strOk x = true) : Tg H z n (.str x) (.str x)
  | tup {a : Addr} {xs : List V} {ds : List PyData} (h : H a = some (.tup xs)) (hl : xs.length ≤ n) (r : TgAll H z n xs ds) : Tg H z n (.ref a) (.tuple ds)
  | lst {a : Addr} {xs : List V} {ds : List PyData} (nz : a ≠ z) (h : H a = some (.lst xs)) (hl : xs.length ≤ n) (r : TgAll H z n xs ds) : Tg H z n (.ref a) (.list ds)
inductive TgAll (H : Hp) (z : Addr) (n : Nat) : List V → List PyData → Prop where
  | nil : TgAll H z n [] []
  | cons {x : V} {d : PyData} {xs : List V} {ds : List PyData} (h : Tg H z n x d) (r : TgAll H z n xs ds) : TgAll H z n (x :: xs) (d :: ds)
end
/-- all but the list at z stays -/
def Btz (z : Addr) (H H' : Hp) : Prop := ∀ b o, b ≠ z → H b = some o → H' b = some o
theorem Btz.refl (z : Addr) (H : Hp) : Btz z H H := fun _ _ _ h => h
theorem Btz.trans {z : Addr} {H H1 H2 : Hp} (a : Btz z H H1) (b : Btz z H1 H2) : Btz z H H2 := fun c o n h => b c o n (a c o n h)
theorem Btz.of {z : Addr} {H H' : Hp} (s : Same H H') : Btz z H H' := fun b o _ h => s b o h
theorem Btz.put {z : Addr} {H : Hp} (o : HO) : Btz z H (upd H z o) := fun b u n h => (upd_ne n).trans h
def NoTup (H : Hp) (z : Addr) : Prop := ∀ xs, H z ≠ some (.tup xs)
theorem noTup_none {H : Hp} {z : Addr} (h : H z = none) : NoTup H z := fun xs e => by rw [h] at e; cases e
theorem noTup_lst {H : Hp} {z : Addr} {ys : List V} (h : H z = some (.lst ys)) : NoTup H z := fun xs e => by rw [h] at e; cases e
section
variable {H H' : Hp} {z z' : Addr} {n n' : Nat}
mutual
theorem Tg.map (hn : n ≤ n') (k : ∀ a xs, H a = some (.tup xs) → H' a = some (.tup xs)) (k2 : ∀ a xs, a ≠ z → H a = some (.lst xs) → a ≠ z' ∧ H' a = some (.lst xs)) : ∀ (d : PyData) (v : V), Tg H z n v d → Tg H' z' n' v d
  | .none, _, h => by cases h; exact .non
  | .bool b, _, h => by cases h; exact .bl b
  | .int i, _, h => by cases h; exact .int i
  | .str x, _, h => by
    cases h with
    | str _ h => exact .str x h
  | .tuple ds, _, h => by
    cases h with
    | tup h1 hl h2 => exact .tup (k _ _ h1) (Nat.le_trans hl hn) (TgAll.map hn k k2 ds _ h2)
  | .list ds, _, h => by
    cases h with
    | lst nz h1 hl h2 => exact .lst (k2 _ _ nz h1).1 (k2 _ _ nz h1).2 (Nat.le_trans hl hn) (TgAll.map hn k k2 ds _ h2)
  | .dict ds, _, h => by cases h
theorem TgAll.map (hn : n ≤ n') (k : ∀ a xs, H a = some (.tup xs) → H' a = some (.tup xs)) (k2 : ∀ a xs, a ≠ z → H a = some (.lst xs) → a ≠ z' ∧ H' a = some (.lst xs)) : ∀ (ds : List PyData) (vs : List V), TgAll H z n vs ds → TgAll H' z' n' vs ds
  | [], _, h => by cases h; exact .nil
  | d :: ds, _, h => by
    cases h with
    | cons h1 h2 => exact .cons (Tg.map hn k k2 d _ h1) (TgAll.map hn k k2 ds _ h2)
end
theorem Tg.btz {v : V} {d : PyData} (nt : NoTup H z) (b : Btz z H H') (t : Tg H z n v d) : Tg H' z n v d := Tg.map (Nat.le_refl _) (fun a xs h => b a _ (fun e => nt xs (e ▸ h)) h) (fun a xs ne h => ⟨ne, b a _ ne h⟩) d v t
theorem TgAll.btz {vs : List V} {ds : List PyData} (nt : NoTup H z) (b : Btz z H H') (t : TgAll H z n vs ds) : TgAll H' z n vs ds := TgAll.map (Nat.le_refl _) (fun a xs h => b a _ (fun e => nt xs (e ▸ h)) h) (fun a xs ne h => ⟨ne, b a _ ne h⟩) ds vs t
theorem Tg.same {v : V} {d : PyData} (b : Same H H') (t : Tg H z n v d) : Tg H' z n v d := Tg.map (Nat.le_refl _) (fun a xs h => b a _ h) (fun a xs ne h => ⟨ne, b a _ h⟩) d v t
theorem TgAll.same {vs : List V} {ds : List PyData} (b : Same H H') (t : TgAll H z n vs ds) : TgAll H' z n vs ds := TgAll.map (Nat.le_refl _) (fun a xs h => b a _ h) (fun a xs ne h => ⟨ne, b a _ h⟩) ds vs t
theorem Tg.mono {v : V} {d : PyData} (h : n ≤ n') (t : Tg H z n v d) : Tg H z n' v d := Tg.map h (fun a xs h => h) (fun a xs ne h => ⟨ne, h⟩) d v t
theorem TgAll.mono {vs : List V} {ds : List PyData} (h : n ≤ n') (t : TgAll H z n vs ds) : TgAll H z n' vs ds := TgAll.map h (fun a xs h => h) (fun a xs ne h => ⟨ne, h⟩) ds vs t
theorem Tg.move {v : V} {d : PyData} (e : H z' = none) (t : Tg H z n v d) : Tg H z' n v d := Tg.map (Nat.le_refl _) (fun a xs h => h) (fun a xs ne h => ⟨fun q => (by rw [q, e] at h; cases h), h⟩) d v t
mutual
theorem Tg.dp {K : Frg} : ∀ (d : PyData) (v : V), Tg H z n v d → Dp K H v d ∧ d.canLay0 = true
  | .none, _, h => by cases h; exact ⟨.non, rfl⟩
  | .bool b, _, h => by cases h; exact ⟨.bl b, rfl⟩
  | .int i, _, h => by cases h; exact ⟨.int i, rfl⟩
  | .str x, _, h => by
    cases h with
    | str _ h => exact ⟨.str x, h⟩
  | .tuple ds, _, h => by
    cases h with
    | tup h1 hl h2 =>
      obtain ⟨a, b⟩ := TgAll.dp ds _ h2
      exact ⟨.tup (SqT.of h1) a, b⟩
  | .list ds, _, h => by
    cases h with
    | lst nz h1 hl h2 =>
      obtain ⟨a, b⟩ := TgAll.dp ds _ h2
      exact ⟨.lst (SqL.of h1) a, b⟩
  | .dict ds, _, h => by cases h
theorem TgAll.dp {K : Frg} : ∀ (ds : List PyData) (vs : List V), TgAll H z n vs ds → DpAll K H vs ds ∧ PyData.canLayAll0 ds = true
  | [], _, h => by cases h; exact ⟨.nil, rfl⟩
  | d :: ds, _, h => by
    cases h with
    | cons h1 h2 =>
      obtain ⟨a, b⟩ := Tg.dp d _ h1
      obtain ⟨a2, b2⟩ := TgAll.dp ds _ h2
      exact ⟨.cons a a2, by show (PyData.canLay0 d && PyData.canLayAll0 ds) = true; rw [b, b2]; rfl⟩
end
theorem tgAll_len {vs : List V} {ds : List PyData} (t : TgAll H z n vs ds) : vs.length = ds.length := by
  induction vs generalizing ds with
  | nil => cases t; rfl
  | cons v vs ih =>
    cases t with
    | cons h r => rw [List.length_cons, List.length_cons, ih r]
theorem tgAll_get {vs : List V} {ds : List PyData} {i : Nat} {x : V} (t : TgAll H z n vs ds) (e : vs[i]? = some x) : ∃ d, ds[i]? = some d ∧ Tg H z n x d := by
  induction vs generalizing ds i with
  | nil => simp at e
  | cons v vs ih =>
    cases t with
    | cons h r =>
      cases i with
      | zero =>
        cases (show some v = some x from e)
        exact ⟨_, rfl, h⟩
      | succ i =>
        obtain ⟨d, e1, h1⟩ := ih r (by simpa using e)
        exact ⟨d, by simpa using e1, h1⟩
theorem tgAll_at {vs : List V} {ds : List PyData} {i : Nat} {d : PyData} (t : TgAll H z n vs ds) (e : ds[i]? = some d) : ∃ x, vs[i]? = some x ∧ Tg H z n x d := by
  have hl := tgAll_len t
  have hi : i < vs.length := by
    rw [hl]
    exact (List.getElem?_eq_some_iff.mp e).1
  obtain ⟨d', e', h⟩ := tgAll_get t (List.getElem?_eq_getElem hi)
  rw [e] at e'
  cases e'
  exact ⟨_, List.getElem?_eq_getElem hi, h⟩
theorem tgAll_app {vs us : List V} {ds es : List PyData} (t : TgAll H z n vs ds) (u : TgAll H z n us es) : TgAll H z n (vs ++ us) (ds ++ es) := by
  induction vs generalizing ds with
  | nil => cases t; exact u
  | cons v vs ih =>
    cases t with
    | cons h r => exact .cons h (ih r)
theorem tgAll_take {vs : List V} {ds : List PyData} (t : TgAll H z n vs ds) (i : Nat) : TgAll H z n (vs.take i) (ds.take i) := by
  induction vs generalizing ds i with
  | nil => cases t; simp; exact .nil
  | cons v vs ih =>
    cases t with
    | cons h r =>
      cases i with
      | zero => exact .nil
      | succ i => exact .cons h (ih r i)
theorem tgAll_drop {vs : List V} {ds : List PyData} (t : TgAll H z n vs ds) (i : Nat) : TgAll H z n (vs.drop i) (ds.drop i) := by
  induction vs generalizing ds i with
  | nil => cases t; simp; exact .nil
  | cons v vs ih =>
    cases t with
    | cons h r =>
      cases i with
      | zero => exact .cons h r
      | succ i => exact ih r i
theorem tgAll_rev {vs : List V} {ds : List PyData} (t : TgAll H z n vs ds) : TgAll H z n vs.reverse ds.reverse := by
  induction vs generalizing ds with
  | nil => cases t; exact .nil
  | cons v vs ih =>
    cases t with
    | cons h r =>
      rw [List.reverse_cons, List.reverse_cons]
      exact tgAll_app (ih r) (.cons h .nil)
theorem tg_tup {v : V} {ds : List PyData} (t : Tg H z n v (.tuple ds)) : ∃ a xs, v = .ref a ∧ H a = some (.tup xs) ∧ xs.length ≤ n ∧ TgAll H z n xs ds := by
  cases t with
  | tup h hl r => exact ⟨_, _, rfl, h, hl, r⟩
theorem tg_ints {ns : List Int} : TgAll H z n (ns.map V.int) (ns.map PyData.int) := by
  induction ns with
  | nil => exact .nil
  | cons i ns ih => exact .cons (.int i) ih
theorem tg_intsB {xs : List V} {ns : List Int} (t : TgAll H z n xs (ns.map PyData.int)) : xs = ns.map V.int := by
  induction ns generalizing xs with
  | nil => cases t; rfl
  | cons i ns ih =>
    cases t with
    | cons h r =>
      cases h
      rw [ih r]
      rfl
theorem tg_litS {x : Str} (h : PyData.strOk x = true) : Tg H z n (.str x) (.str x) := .str x h
end
def isTup : PyData → Bool
  | .tuple _ => true
  | _ => false
def isBol : PyData → Bool
  | .bool _ => true
  | _ => false
def isStr : PyData → Bool
  | .str _ => true
  | _ => false
section
variable {K : Frg} {H : Hp} {z : Addr} {n : Nat} {v : V} {d : PyData} {Q : VK}
theorem i_tup (t : Tg H z n v d) (h : Q (.bl (isTup d)) H) : rIsi K [v, .ty "tuple"] H Q := by
  cases t with
  | non => exact r_isi (b := false) (.base .non) (by decide +kernel) h
  | bl b => exact r_isi (b := false) (.base (.bl b)) (by decide +kernel) h
  | int i => exact r_isi (b := false) (.base (.int i)) (by decide +kernel) h
  | str x _ => exact r_isi (b := false) (.base (.str x)) (by decide +kernel) h
  | tup ha _ r => exact r_isi (b := true) (.base (.tup ha)) (by decide +kernel) h
  | lst _ ha _ r => exact r_isi (b := false) (.base (.lst ha)) (by decide +kernel) h
theorem i_bool (t : Tg H z n v d) (h : Q (.bl (isBol d)) H) : rIsi K [v, .ty "bool"] H Q := by
  cases t with
  | non => exact r_isi (b := false) (.base .non) (by decide +kernel) h
  | bl b => exact r_isi (b := true) (.base (.bl b)) (by decide +kernel) h
  | int i => exact r_isi (b := false) (.base (.int i)) (by decide +kernel) h
  | str x _ => exact r_isi (b := false) (.base (.str x)) (by decide +kernel) h
  | tup ha _ r => exact r_isi (b := false) (.base (.tup ha)) (by decide +kernel) h
  | lst _ ha _ r => exact r_isi (b := false) (.base (.lst ha)) (by decide +kernel) h
theorem i_str (t : Tg H z n v d) (h : Q (.bl (isStr d)) H) : rIsi K [v, .ty "str"] H Q := by
  cases t with
  | non => exact r_isi (b := false) (.base .non) (by decide +kernel) h
  | bl b => exact r_isi (b := false) (.base (.bl b)) (by decide +kernel) h
  | int i => exact r_isi (b := false) (.base (.int i)) (by decide +kernel) h
  | str x _ => exact r_isi (b := true) (.base (.str x)) (by decide +kernel) h
  | tup ha _ r => exact r_isi (b := false) (.base (.tup ha)) (by decide +kernel) h
  | lst _ ha _ r => exact r_isi (b := false) (.base (.lst ha)) (by decide +kernel) h
theorem i_int (t : Tg H z n v d) (h : Q (.bl (match d with | .bool _ => true | .int _ => true | _ => false)) H) : rIsi K [v, .ty "int"] H Q := by
  cases t with
  | non => exact r_isi (b := false) (.base .non) (by decide +kernel) h
  | bl b => exact r_isi (b := true) (.base (.bl b)) (by decide +kernel) h
  | int i => exact r_isi (b := true) (.base (.int i)) (by decide +kernel) h
  | str x _ => exact r_isi (b := false) (.base (.str x)) (by decide +kernel) h
  | tup ha _ r => exact r_isi (b := false) (.base (.tup ha)) (by decide +kernel) h
  | lst _ ha _ r => exact r_isi (b := false) (.base (.lst ha)) (by decide +kernel) h
end
def isInt : PyData → Bool
  | .int _ => true
  | _ => false
def isOct : PyData → Bool
  | .int i => decide (0 ≤ i ∧ i ≤ 255)
  | _ => false
def isPnt : PyData → Bool
  | .int i => decide (0 ≤ i ∧ i ≤ 1114111 ∧ ¬ (55296 ≤ i ∧ i ≤ 57343))
  | _ => false
def isNum : PyData → PyData → Bool
  | .int m, .int e => decide (m % 10 ≠ 0 ∨ (m = 0 ∧ e = 0))
  | _, _ => false
theorem no_int {H : Hp} {z : Addr} {n : Nat} {v : V} {d : PyData} (t : Tg H z n v d) : (∃ i, v = .int i ∧ d = .int i ∧ isInt d = true) ∨ isInt d = false ∧ isOct d = false ∧ isPnt d = false := by
  cases t with
  | int i => exact .inl ⟨i, rfl, rfl, rfl⟩
  | _ => exact .inr ⟨rfl, rfl, rfl⟩
abbrev s__is_integer : Stmt := (top 8)
theorem sc__is_integer : FnScope ["thing"] ["thing"] (defScope s__is_integer) := ⟨rfl, rfl, rfl, by decide +kernel, rfl, by decide +kernel, by decide +kernel⟩
abbrev s__is_octet : Stmt := (top 10)
theorem sc__is_octet : FnScope ["thing"] ["thing"] (defScope s__is_octet) := ⟨rfl, rfl, rfl, by decide +kernel, rfl, by decide +kernel, by decide +kernel⟩
abbrev s__is_point : Stmt := (top 11)
theorem sc__is_point : FnScope ["thing"] ["thing"] (defScope s__is_point) := ⟨rfl, rfl, rfl, by decide +kernel, rfl, by decide +kernel, by decide +kernel⟩
abbrev s__is_number : Stmt := (top 9)
theorem sc__is_number : FnScope ["m", "e"] ["m", "e"] (defScope s__is_number) := ⟨rfl, rfl, rfl, by decide +kernel, rfl, by decide +kernel, by decide +kernel⟩
def sp__is_integer (K : Frg) : Sp := sp1 fun a H Q _ => ∃ z n d, Tg H z n a d ∧ Q (.bl (isInt d)) H
def sp__is_octet (K : Frg) : Sp := sp1 fun a H Q _ => ∃ z n d, Tg H z n a d ∧ Q (.bl (isOct d)) H
def sp__is_point (K : Frg) : Sp := sp1 fun a H Q _ => ∃ z n d, Tg H z n a d ∧ Q (.bl (isPnt d)) H
def sp__is_number (K : Frg) : Sp := sp2 fun a b H Q _ => ∃ z n d e, Tg H z n a d ∧ Tg H z n b e ∧ Q (.bl (isNum d e)) H
section
variable {P : Program} {w : World} {K : PySem.W.Frag} {mg : Str → Option Value} {base : Heap} {f : Addr} {fd : FuncData}
theorem ok__is_integer (F : FunD K "_is_integer" "_is_integer" (defArgs s__is_integer) (defBody s__is_integer) (defScope s__is_integer) [] [] (glAd "_is_integer" K) fd) (m : mg "_is_integer" = some (.ref (glAd "_is_integer" K))) (nb : Nm w K mg) : Cal P w K mg base 1 "_is_integer" (sp__is_integer K) [] := by
  refine calD F m sc__is_integer (fun _ _ _ _ _ _ us hl => match us, hl with | [_], _ => rfl) len1 (fun cdv A outer s H vs Q E hr h => ⟨_, (pss_one (ps_ret (pe_and (pe_callB call_isi (by rfl) nb.isinstance (by decide +kernel) (pa_cons (pv 0) (pa_cons (pe_bltn (v := .ty "int") (u := .type "int") (by rfl) nb.int (by decide +kernel) rfl) pa_nil))) (pe_one (pe_not (pe_callB call_isi (by rfl) nb.isinstance (by decide +kernel) (pa_cons (pv 0) (pa_cons (pe_bltn (v := .ty "bool") (u := .type "bool") (by rfl) nb.bool (by decide +kernel) rfl) pa_nil)))))))), ?_⟩)
  obtain ⟨_, rfl, z, n, d, t, h⟩ := h
  walk_at "rd"
  refine i_int t ?_
  have ti := t
  cases t <;> (walk_at "rd"; first | exact h | (refine i_bool ti ?_; walk_at "rd"; exact h))
theorem ok__is_octet (F : FunD K "_is_octet" "_is_octet" (defArgs s__is_octet) (defBody s__is_octet) (defScope s__is_octet) [] [] (glAd "_is_octet" K) fd) (m : mg "_is_octet" = some (.ref (glAd "_is_octet" K))) (nb : Nm w K mg) (c__is_integer : Cal P w K mg base 1 "_is_integer" (sp__is_integer K) []) : Cal P w K mg base 2 "_is_octet" (sp__is_octet K) [] := by
  refine calD F m sc__is_octet (fun _ _ _ _ _ _ us hl => match us, hl with | [_], _ => rfl) len1 (fun cdv A outer s H vs Q E hr h => ⟨_, (pss_one (ps_ret (pe_and (pe_c c__is_integer hr (by decide) rfl (pa_cons (pv 0) pa_nil)) (pe_one (pe_chain op_le op_le pe_int (pv 0) pe_int))))), ?_⟩)
  obtain ⟨_, rfl, z, n, d, t, h⟩ := h
  walk_at "rd"
  refine ⟨_, rfl, z, n, d, t, ?_⟩
  walk_at "rd"
  rcases no_int t with ⟨i, e1, e2, e3⟩ | ⟨e1, e2, e3⟩
  · subst e1 e2
    rw [if_pos e3]
    walk_at "rd"
    by_cases c : 0 ≤ i
    · rw [if_pos (decide_eq_true c)]
      walk_at "rd"
      rw [show isOct (.int i) = decide (i ≤ 255) from decide_eq_decide.mpr ⟨fun q => q.2, fun q => ⟨c, q⟩⟩] at h
      exact h
    · rw [if_neg (by rw [decide_eq_false c]; decide)]
      rw [show isOct (.int i) = false from decide_eq_false fun q => c q.1] at h
      exact h
  · rw [if_neg (by rw [e1]; decide)]
    rw [e2] at h
    exact h
theorem ok__is_point (F : FunD K "_is_point" "_is_point" (defArgs s__is_point) (defBody s__is_point) (defScope s__is_point) [] [] (glAd "_is_point" K) fd) (m : mg "_is_point" = some (.ref (glAd "_is_point" K))) (nb : Nm w K mg) (c__is_integer : Cal P w K mg base 1 "_is_integer" (sp__is_integer K) []) : Cal P w K mg base 2 "_is_point" (sp__is_point K) [] := by
  refine calD F m sc__is_point (fun _ _ _ _ _ _ us hl => match us, hl with | [_], _ => rfl) len1 (fun cdv A outer s H vs Q E hr h => ⟨_, (pss_one (ps_ret (pe_and (pe_c c__is_integer hr (by decide) rfl (pa_cons (pv 0) pa_nil)) (pe_and (pe_chain op_le op_le pe_int (pv 0) pe_int) (pe_one (pe_not (pe_chain op_le op_le pe_int (pv 0) pe_int))))))), ?_⟩)
  obtain ⟨_, rfl, z, n, d, t, h⟩ := h
  walk_at "rd"
  refine ⟨_, rfl, z, n, d, t, ?_⟩
  walk_at "rd"
  rcases no_int t with ⟨i, e1, e2, e3⟩ | ⟨e1, e2, e3⟩
  · subst e1 e2
    rw [if_pos e3]
    walk_at "rd"
    by_cases c : 0 ≤ i
    · rw [if_pos (decide_eq_true c)]
      walk_at "rd"
      by_cases c2 : i ≤ 1114111
      · rw [if_pos (decide_eq_true c2)]
        walk_at "rd"
        by_cases c3 : 55296 ≤ i
        · rw [if_pos (decide_eq_true c3)]
          walk_at "rd"
          rw [show isPnt (.int i) = !decide (i ≤ 57343) from by
            by_cases c4 : i ≤ 57343
            · rw [decide_eq_true c4]
              exact decide_eq_false fun q => q.2.2 ⟨c3, c4⟩
            · rw [decide_eq_false c4]
              exact decide_eq_true ⟨c, c2, fun q => c4 q.2⟩] at h
          exact h
        · rw [if_neg (by rw [decide_eq_false c3]; decide)]
          refine ⟨_, rfl, ?_⟩
          rw [show isPnt (.int i) = true from decide_eq_true ⟨c, c2, fun q => c3 q.1⟩] at h
          exact h
      · rw [if_neg (by rw [decide_eq_false c2]; decide)]
        rw [show isPnt (.int i) = false from decide_eq_false fun q => c2 q.2.1] at h
        exact h
    · rw [if_neg (by rw [decide_eq_false c]; decide)]
      refine ⟨_, rfl, ?_⟩
      rw [if_neg (by decide)]
      rw [show isPnt (.int i) = false from decide_eq_false fun q => c q.1] at h
      exact h
  · rw [if_neg (by rw [e1]; decide)]
    rw [e3] at h
    exact h
theorem ok__is_number (F : FunD K "_is_number" "_is_number" (defArgs s__is_number) (defBody s__is_number) (defScope s__is_number) [] [] (glAd "_is_number" K) fd) (m : mg "_is_number" = some (.ref (glAd "_is_number" K))) (nb : Nm w K mg) (c__is_integer : Cal P w K mg base 1 "_is_integer" (sp__is_integer K) []) : Cal P w K mg base 2 "_is_number" (sp__is_number K) [] := by
  refine calD F m sc__is_number (fun _ _ _ _ _ _ us hl => match us, hl with | [_, _], _ => rfl) len2 (fun cdv A outer s H vs Q E hr h => ⟨_, (pss_cons (ps_if (PW.pt (pw_or (pt_not (pt_val (pe_c c__is_integer hr (by decide) rfl (pa_cons (pv 0) pa_nil)))) (pw_or1 (pt_not (pt_val (pe_c c__is_integer hr (by decide) rfl (pa_cons (pv 1) pa_nil)))))))
    (pss_one (ps_ret pe_bl))
    pss_nil)
    (pss_one (ps_ret (pe_or (pe_cmpR op_ne (pe_op op_mod (pv 0) pe_int) pe_int (nomark _)) (pe_one (pe_and (pe_cmpR op_eq (pv 0) pe_int (nomark _)) (pe_one (pe_cmpR op_eq (pv 1) pe_int (nomark _))))))))), ?_⟩)
  obtain ⟨_, _, rfl, z, n, d, e, t, t2, h⟩ := h
  walk_at "rd"
  refine ⟨_, rfl, z, n, d, t, ?_⟩
  walk_at "rd"
  rcases no_int t with ⟨i, e1, e2, e3⟩ | ⟨e1, _, _⟩
  · subst e1 e2
    rw [if_neg (by rw [e3]; decide)]
    walk_at "rd"
    refine ⟨_, rfl, z, n, e, t2, ?_⟩
    walk_at "rd"
    rcases no_int t2 with ⟨j, f1, f2, f3⟩ | ⟨f1, _, _⟩
    · subst f1 f2
      rw [if_neg (by rw [f3]; decide)]
      walk_at "rd"
      by_cases c : i % 10 = 0
      · rw [if_neg (by rw [decide_eq_true c]; decide)]
        walk_at "rd"
        by_cases c2 : i = 0
        · rw [if_pos (decide_eq_true c2)]
          walk_at "rd"
          rw [show isNum (.int i) (.int j) = decide (j = 0) from decide_eq_decide.mpr ⟨fun q => q.elim (fun z => absurd c z) fun z => z.2, fun q => .inr ⟨c2, q⟩⟩] at h
          exact h
        · rw [if_neg (by rw [decide_eq_false c2]; decide)]
          rw [show isNum (.int i) (.int j) = false from decide_eq_false fun q => q.elim (fun z => z c) fun z => c2 z.1] at h
          exact h
      · rw [if_pos (by rw [decide_eq_false c]; rfl)]
        rw [show isNum (.int i) (.int j) = true from decide_eq_true (.inl c)] at h
        exact h
    · rw [if_pos (by rw [f1]; rfl)]
      walk_at "rd"
      cases e <;> first | exact h | cases f1
  · rw [if_pos (by rw [e1]; rfl)]
    walk_at "rd"
    cases d <;> first | exact h | cases e1
end

/-! ### the parts of a value; whether a thing is sound by itself -/
def isTextD : PyData → Bool
  | .tuple ps => ps.all isPnt
  | _ => false
def intD : PyData → Int
  | .int i => i
  | _ => 0
def keyOf : PyData → List Int
  | .tuple (.tuple ks :: _) => ks.map intD
  | _ => []
def ent1 : PyData → Bool
  | .tuple [k, _] => isTextD k
  | _ => false
def entV : PyData → PyData
  | .tuple [_, v] => v
  | _ => .none
def ordB : Option (List Int) → List Int → Bool
  | none, _ => true
  | some l, k => HT.lexLt l k
def entsB : Option (List Int) → List PyData → Bool
  | _, [] => true
  | last, e :: es => ent1 e && (ordB last (keyOf e) && entsB (some (keyOf e)) es)
def fitsB (k : Str) (c : PyData) : Bool :=
  if k = "truth" then isBol c else match c with
  | .tuple ds => if k = "bytes" then ds.all isOct else if k = "text" then ds.all isPnt else if k = "list" then true else entsB none ds
  | _ => false
def lensB (k : Str) : Nat := if k = "null" then 1 else if k = "truth" then 2 else if k = "number" then 3 else if k = "bytes" then 2 else if k = "text" then 2 else if k = "list" then 2 else if k = "map" then 2 else 0
def isSnd : PyData → Bool
  | .tuple (.str k :: r) => decide (lensB k = r.length + 1) && (match r with
    | [a, b] => isNum a b
    | [c] => fitsB k c
    | _ => true)
  | _ => false
def isCon : PyData → Bool
  | .tuple (.str k :: _) => decide (k = "list") || decide (k = "map")
  | _ => false
def kids : PyData → List PyData
  | .tuple [.str k, .tuple ds] => if k = "list" then ds else if k = "map" then ds.map entV else []
  | _ => []
theorem lens_val (k : Str) : (valV (([.inr "null", .inr "truth", .inr "number", .inr "bytes", .inr "text", .inr "list", .inr "map"] : List Key).zip ([.int 1, .int 2, .int 3, .int 2, .int 2, .int 2, .int 2] : List V)) (.inr k)).getD (.int 0) = .int (lensB k) := by
  have g : ∀ (ks : List Str) (vs : List Int), (valV ((ks.map (Sum.inr (α := Int))).zip (vs.map V.int)) (.inr k)).getD (.int 0) = .int (((ks.zip vs).find? fun p => decide (p.1 = k)).map (·.2) |>.getD 0) := by
    intro ks
    induction ks with
    | nil => intro vs; rfl
    | cons x ks ih =>
      intro vs
      cases vs with
      | nil => rfl
      | cons y vs =>
        by_cases c : x = k
        · subst c
          simp [valV]
        · have := ih vs
          simp only [valV, List.map_cons, List.zip_cons_cons, List.find?_cons] at this ⊢
          rw [decide_eq_false (show ¬ ((Sum.inr x : Int ⊕ Str) = .inr k) from fun q => c (Sum.inr.inj q)), decide_eq_false c]
          exact this
  have e := g ["null", "truth", "number", "bytes", "text", "list", "map"] [1, 2, 3, 2, 2, 2, 2]
  refine e.trans ?_
  unfold lensB
  by_cases c1 : k = "null"
  · subst c1; rfl
  by_cases c2 : k = "truth"
  · subst c2; rfl
  by_cases c3 : k = "number"
  · subst c3; rfl
  by_cases c4 : k = "bytes"
  · subst c4; rfl
  by_cases c5 : k = "text"
  · subst c5; rfl
  by_cases c6 : k = "list"
  · subst c6; rfl
  by_cases c7 : k = "map"
  · subst c7; rfl
  rw [if_neg c1, if_neg c2, if_neg c3, if_neg c4, if_neg c5, if_neg c6, if_neg c7]
  simp only [List.zip_cons_cons, List.find?_cons, decide_eq_false (show ¬ (("null" : Str) = k) from fun q => c1 q.symm), decide_eq_false (show ¬ (("truth" : Str) = k) from fun q => c2 q.symm), decide_eq_false (show ¬ (("number" : Str) = k) from fun q => c3 q.symm), decide_eq_false (show ¬ (("bytes" : Str) = k) from fun q => c4 q.symm), decide_eq_false (show ¬ (("text" : Str) = k) from fun q => c5 q.symm), decide_eq_false (show ¬ (("list" : Str) = k) from fun q => c6 q.symm), decide_eq_false (show ¬ (("map" : Str) = k) from fun q => c7 q.symm)]
  rfl
abbrev s_parts : Stmt := (top 2)
theorem sc_parts : FnScope ["value", "entry"] ["value"] (defScope s_parts) := ⟨rfl, rfl, rfl, by decide +kernel, rfl, by decide +kernel, by decide +kernel⟩
abbrev s__is_text : Stmt := (top 12)
theorem sc__is_text : FnScope ["thing", "point"] ["thing"] (defScope s__is_text) := ⟨rfl, rfl, rfl, by decide +kernel, rfl, by decide +kernel, by decide +kernel⟩
abbrev s__fits : Stmt := (top 7)
theorem sc__fits : FnScope ["kind", "content", "octet"] ["kind", "content"] (defScope s__fits) := ⟨rfl, rfl, rfl, by decide +kernel, rfl, by decide +kernel, by decide +kernel⟩
abbrev s__are_entries : Stmt := (top 13)
theorem sc__are_entries : FnScope ["entries", "last", "entry"] ["entries"] (defScope s__are_entries) := ⟨rfl, rfl, rfl, by decide +kernel, rfl, by decide +kernel, by decide +kernel⟩
abbrev s__is_sound : Stmt := (top 6)
theorem sc__is_sound : FnScope ["thing"] ["thing"] (defScope s__is_sound) := ⟨rfl, rfl, rfl, by decide +kernel, rfl, by decide +kernel, by decide +kernel⟩
def sp_parts (K : Frg) : Sp := sp1 fun a H Q _ => ∃ (z : Addr) (n : Nat) (k : Str) (ds : List PyData), Tg H z n a (.tuple [.str k, .tuple ds]) ∧ n ≤ 1000 ∧ (k = "list" ∨ k = "map" ∧ entsB none ds = true) ∧ ∀ (p : Addr) (xs : List V) (H' : Hp), H' p = some (.tup xs) → xs.length ≤ n → TgAll H' z n xs (kids (.tuple [.str k, .tuple ds])) → Same H H' → Q (.ref p) H'
def sp__is_text (K : Frg) : Sp := sp1 fun a H Q _ => ∃ z n d, Tg H z n a d ∧ n ≤ 1000 ∧ ∀ H', Same H H' → Q (.bl (isTextD d)) H'
def sp__fits (K : Frg) : Sp := sp2 fun a b H Q _ => ∃ z n k d, a = .str k ∧ Tg H z n b d ∧ n ≤ 1000 ∧ k ≠ "null" ∧ k ≠ "number" ∧ lensB k ≠ 0 ∧ ∀ H', Same H H' → Q (.bl (fitsB k d)) H'
def sp__are_entries (K : Frg) : Sp := sp1 fun a H Q _ => ∃ z n ds, Tg H z n a (.tuple ds) ∧ n ≤ 1000 ∧ ∀ H', Same H H' → Q (.bl (entsB none ds)) H'
def sp__is_sound (K : Frg) : Sp := sp1 fun a H Q _ => ∃ z n d, Tg H z n a d ∧ n ≤ 1000 ∧ ∀ H', Same H H' → Q (.bl (isSnd d)) H'
theorem take_oneD {ds : List PyData} {i : Nat} {d : PyData} (h : ds[i]? = some d) : ds.take (i + 1) = ds.take i ++ [d] := by
  rw [List.take_add_one, h]
  rfl
theorem all_id {α : Type} (p : α → Bool) (ds : List α) : (ds.map p).all id = ds.all p := by
  rw [List.all_map]
  rfl
theorem ents_all : ∀ (lo : Option (List Int)) (ds : List PyData), entsB lo ds = true → ∀ e ∈ ds, ent1 e = true
  | _, [], _, e, he => absurd he (by simp)
  | lo, d :: ds, h, e, he => by
    have h1 : ent1 d = true ∧ _ := both h
    rcases List.mem_cons.mp he with q | q
    · rw [q]
      exact h1.1
    · exact ents_all _ ds (both h1.2).2 e q
theorem ent1_is {d : PyData} (h : ent1 d = true) : ∃ k v, d = .tuple [k, v] ∧ isTextD k = true := by
  unfold ent1 at h
  split at h
  · exact ⟨_, _, rfl, h⟩
  · cases h
theorem text_is {d : PyData} (h : isTextD d = true) : ∃ ns : List Int, d = .tuple (ns.map PyData.int) := by
  unfold isTextD at h
  split at h
  · rename_i ps
    refine ⟨ps.map intD, ?_⟩
    congr 1
    induction ps with
    | nil => rfl
    | cons p ps ih =>
      rw [List.all_cons] at h
      obtain ⟨h1, h2⟩ := both h
      rw [List.map_cons, List.map_cons, ← ih h2]
      congr 1
      unfold isPnt at h1
      split at h1
      · rfl
      · cases h1
  · cases h
theorem intD_ints (ns : List Int) : (ns.map PyData.int).map intD = ns := by
  rw [List.map_map]
  exact List.map_id _
theorem lexAt_le (N M : List Int) : ∀ (ns ms : List Int) (i : Nat), N.drop i = ns → M.drop i = ms → N.length = i + ns.length → M.length = i + ms.length →
    Ob.lexAt (fun j => decide (N.getD j 0 = M.getD j 0)) (fun j => decide (N.getD j 0 ≤ M.getD j 0)) (decide (N.length ≤ M.length)) i (min ns.length ms.length) = !HT.lexLt ms ns
  | [], ms, i, _, _, h3, h4 => by
    rw [List.length_nil, Nat.zero_min, Ob.lexAt_zero]
    have e : decide (N.length ≤ M.length) = true := decide_eq_true (by rw [h3, h4]; simp)
    rw [e]
    cases ms <;> rfl
  | x :: ns, [], i, _, _, h3, h4 => by
    rw [List.length_nil, Nat.min_zero, Ob.lexAt_zero]
    have e : decide (N.length ≤ M.length) = false := decide_eq_false (by rw [h3, h4]; simp)
    rw [e]
    rfl
  | x :: ns, y :: ms, i, h1, h2, h3, h4 => by
    have ex : N.getD i 0 = x := by
      have := congrArg (fun l : List Int => l[0]?) h1
      simp only [List.getElem?_drop, Nat.add_zero] at this
      rw [List.getD_eq_getElem?_getD, this]
      rfl
    have ey : M.getD i 0 = y := by
      have := congrArg (fun l : List Int => l[0]?) h2
      simp only [List.getElem?_drop, Nat.add_zero] at this
      rw [List.getD_eq_getElem?_getD, this]
      rfl
    have d1 : N.drop (i + 1) = ns := by rw [← List.drop_drop, h1]; rfl
    have d2 : M.drop (i + 1) = ms := by rw [← List.drop_drop, h2]; rfl
    rw [List.length_cons, List.length_cons, Nat.add_min_add_right, Ob.lexAt_succ, lexAt_le N M ns ms (i + 1) d1 d2 (by rw [h3, List.length_cons]; omega) (by rw [h4, List.length_cons]; omega), HT.lexLt_cons]
    rw [ex, ey]
    by_cases c : x = y
    · rw [if_pos (decide_eq_true c), if_pos c.symm]
    · rw [if_neg (by rw [decide_eq_false c]; decide), if_neg (fun q => c q.symm)]
      by_cases c2 : x ≤ y
      · rw [decide_eq_true c2, decide_eq_false (by omega)]
        rfl
      · rw [decide_eq_false c2, decide_eq_true (by omega)]
        rfl
theorem at0' {a : V} {xs : List V} : atI (a :: xs) (0 : Int) = some a := atI_nat (j := 0) rfl
theorem at1' {a b : V} : atI [a, b] (1 : Int) = some b := rfl
theorem len_ne {v : V} {xs : List V} {K : Frg} {H : Hp} {a : Addr} {Q : VK} (ha : H a = some (.tup xs)) (h : Q (.int (xs.length : Int)) H) : ∃ p ys, [V.ref a] = [V.ref p] ∧ (SqL K H p ys ∨ SqT K H p ys) ∧ Q (.int (ys.length : Int)) H := ⟨a, xs, rfl, .inr (SqT.of ha), h⟩
section
variable {P : Program} {w : World} {K : PySem.W.Frag} {mg : Str → Option Value} {base : Heap} {f : Addr} {fd : FuncData}
theorem ok__is_text (F : FunD K "_is_text" "_is_text" (defArgs s__is_text) (defBody s__is_text) (defScope s__is_text) [] [] (glAd "_is_text" K) fd) (m : mg "_is_text" = some (.ref (glAd "_is_text" K))) (nb : Nm w K mg) (c__is_point : Cal P w K mg base 2 "_is_point" (sp__is_point K) []) : Cal P w K mg base 3 "_is_text" (sp__is_text K) [] := by
  refine calD F m sc__is_text (fun _ _ _ _ _ _ us hl => match us, hl with | [_], _ => rfl) len1 (fun cdv A outer s H vs Q E hr h => ⟨_, (pss_one (ps_ret (pe_and (pe_callB call_isi (by rfl) nb.isinstance (by decide +kernel) (pa_cons (pv 0) (pa_cons (pe_bltn (v := .ty "tuple") (u := .type "tuple") (by rfl) nb.tuple (by decide +kernel) rfl) pa_nil))) (pe_one (pe_callB (cr_all rfl) (by rfl) nb.all (by decide +kernel) (pa_cons (pe_lc (own := [("point", 1)]) (g := gName 1) (tt := tYes) rfl sc__is_text.nd (pi_tup (pv 0)) (blkOk_by (N := ["thing", "point"]) (sc := defScope s__is_text) (by decide +kernel)) (fun _ _ _ _ _ => pg_name (i := 1) sc__is_text.nd rfl (Or.inl rfl)) (fun _ _ _ _ _ => pts_nil) (fun _ _ _ _ _ => (pe_c c__is_point hr (by decide) rfl (pa_cons (pv 1) pa_nil)))) pa_nil)))))), ?_⟩)
  obtain ⟨_, rfl, z, n, d, t, hn, h⟩ := h
  walk_at "rd"
  refine i_tup t ?_
  walk_at "rd"
  cases t with
  | tup ha hl r =>
    rename_i a xs ds
    rw [show isTup (.tuple ds) = true from rfl, if_pos rfl]
    walk_at "rd"
    refine ⟨a, rfl, ⟨xs, SqT.of ha⟩, fun D nD => ?_⟩
    refine lc_tup (xs := xs) (fun i H' => Same H H' ∧ H' D = some (.lst (((ds.take i).map isPnt).map V.bl))) ⟨same_upd nD _, upd_same⟩ (fun i H' _ q => SqT.of (q.1 _ _ ha)) ?_ ?_
    · rintro i x H' hx ⟨s1, hD⟩
      obtain ⟨d, hd, t⟩ := tgAll_get r hx
      have hi : i < xs.length := (List.getElem?_eq_some_iff.mp hx).1
      walk_at "rd"
      refine ⟨rfl, ?_⟩
      walk_at "rd"
      refine ⟨_, rfl, z, n, d, t.same s1, ?_⟩
      refine ⟨_, hD, small4k (by rw [List.length_map, List.length_map, List.length_take]; omega), ?_, ?_⟩
      · intro b o hb
        rw [upd_ne (ne_of_none hb nD)]
        exact s1 _ _ hb
      · rw [upd_same, take_oneD hd, List.map_append, List.map_append]
        rfl
    · rintro H' ⟨s1, hD⟩
      walk_at "rd"
      rw [tgAll_len r, List.take_length] at hD
      refine ⟨D, _, rfl, SqL.of hD, ?_⟩
      rw [all_id]
      exact h H' s1
  | _ => exact h H (Same.refl H)
theorem ok_parts (F : FunD K "parts" "parts" (defArgs s_parts) (defBody s_parts) (defScope s_parts) [] [] (glAd "parts" K) fd) (m : mg "parts" = some (.ref (glAd "parts" K))) (nb : Nm w K mg) : Cal P w K mg base 1 "parts" (sp_parts K) [] := by
  refine calD F m sc_parts (fun _ _ _ _ _ _ us hl => match us, hl with | [_], _ => rfl) len1 (fun cdv A outer s H vs Q E hr h => ⟨_, (pss_cons (ps_if (pt_cmpR op_eq (pe_ix ix_tup (pv 0) pe_int (fun _ _ => rfl)) pe_str (nomark _))
    (pss_one (ps_ret (pe_ix ix_tup (pv 0) pe_int (fun _ _ => rfl))))
    pss_nil)
    (pss_cons (ps_if (pt_cmpR op_eq (pe_ix ix_tup (pv 0) pe_int (fun _ _ => rfl)) pe_str (nomark _))
    (pss_one (ps_ret (pe_callTy call_tuple_of (by rfl) nb.tuple (by decide +kernel) (pa_cons (pe_lc (own := [("entry", 1)]) (g := gName 1) (tt := tYes) rfl sc_parts.nd (pi_tup (pe_ix ix_tup (pv 0) pe_int (fun _ _ => rfl))) (blkOk_by (N := ["value", "entry"]) (sc := defScope s_parts) (by decide +kernel)) (fun _ _ _ _ _ => pg_name (i := 1) sc_parts.nd rfl (Or.inl rfl)) (fun _ _ _ _ _ => pts_nil) (fun _ _ _ _ _ => (pe_ix (show IxR _ (rIx K) from ix_seq) (pv 1) pe_int (fun _ _ => rfl)))) pa_nil))))
    pss_nil)
    (pss_one (ps_ret (pe_tup pa_nil))))), ?_⟩)
  obtain ⟨_, rfl, z, n, k, ds, t, hn, hk, h⟩ := h
  obtain ⟨a, us, rfl, ha, hl, r⟩ := tg_tup t
  cases r with
  | cons r1 r =>
  cases r with
  | cons r2 r =>
  cases r
  cases r1
  obtain ⟨b, xs, rfl, hb, hl2, r⟩ := tg_tup r2
  walk_at "rd"
  refine r_ixT (SqT.of ha) rfl ?_
  walk_at "rd"
  refine r_ite (fun c => ?_) (fun c => ?_)
  · subst c
    walk_at "rd"
    refine r_ixT (SqT.of ha) rfl ?_
    exact h b xs H hb hl2 r (Same.refl H)
  have hkm : k = "map" ∧ entsB none ds = true := hk.resolve_left c
  clear hk
  obtain ⟨rfl, hk2⟩ := hkm
  walk_at "rd"
  refine r_ixT (SqT.of ha) rfl ?_
  walk_at "rd"
  refine r_itep rfl ?_
  walk_at "rd"
  refine r_ixT (SqT.of ha) rfl ?_
  refine ⟨b, rfl, ⟨xs, SqT.of hb⟩, fun D nD => ?_⟩
  have hall := ents_all _ _ hk2
  refine lc_tup (xs := xs) (fun i H' => ∃ vs, Same H H' ∧ H' D = some (.lst vs) ∧ TgAll H z n vs ((ds.take i).map entV)) ⟨[], same_upd nD _, upd_same, .nil⟩ (fun i H' _ q => by obtain ⟨vs, q1, _⟩ := q; exact SqT.of (q1 _ _ hb)) ?_ ?_
  · rintro i x H' hx ⟨vs, s1, hD, tv⟩
    obtain ⟨d, hd, t2⟩ := tgAll_get r hx
    have hi : i < xs.length := (List.getElem?_eq_some_iff.mp hx).1
    obtain ⟨kk, vv, rfl, _⟩ := ent1_is (hall d (List.mem_of_getElem? hd))
    obtain ⟨e, es, rfl, he, hle, re⟩ := tg_tup t2
    cases re with
    | cons q1 re =>
    cases re with
    | cons q2 re =>
    cases re
    have hvl := tgAll_len tv
    rw [List.length_map, List.length_take] at hvl
    walk_at "rd"
    refine ⟨rfl, ?_⟩
    walk_at "rd"
    refine .inr (.inl (r_ixT (SqT.of (s1 _ _ he)) at1' ?_))
    refine ⟨_, hD, small4k (by omega), vs ++ [_], ?_, upd_same, ?_⟩
    · intro b o hb
      rw [upd_ne (ne_of_none hb nD)]
      exact s1 _ _ hb
    · rw [take_oneD hd, List.map_append]
      exact tgAll_app tv (.cons q2 .nil)
  · rintro H' ⟨vs, s1, hD, tv⟩
    have hvl := tgAll_len tv
    rw [tgAll_len r, List.take_length] at tv
    rw [List.length_map, List.length_take] at hvl
    walk_at "rd"
    refine ⟨D, vs, rfl, .inl ⟨SqL.of hD, fun p np => ?_⟩⟩
    have s2 := s1.trans (same_upd np (.tup vs))
    exact h p vs _ upd_same (by omega) (tv.same s2) s2
theorem ok__are_entries (F : FunD K "_are_entries" "_are_entries" (defArgs s__are_entries) (defBody s__are_entries) (defScope s__are_entries) [] [] (glAd "_are_entries" K) fd) (m : mg "_are_entries" = some (.ref (glAd "_are_entries" K))) (nb : Nm w K mg) (c__is_text : Cal P w K mg base 3 "_is_text" (sp__is_text K) []) : Cal P w K mg base 4 "_are_entries" (sp__are_entries K) [] := by
  refine calD F m sc__are_entries (fun _ _ _ _ _ _ us hl => match us, hl with | [_], _ => rfl) len1 (fun cdv A outer s H vs Q E hr h => ⟨_, (pss_cons (ps_set (i := 1) sc__are_entries.nd rfl (Or.inl rfl) pe_non)
    (pss_cons (ps_for PassesOwn.never rfl (pi_tup (pv 0)) (pg_name (i := 2) sc__are_entries.nd rfl (Or.inl rfl))
    (pss_cons (ps_if (PW.pt (pw_or (pt_not (pt_val (pe_callB call_isi (by rfl) nb.isinstance (by decide +kernel) (pa_cons (pv 2) (pa_cons (pe_bltn (v := .ty "tuple") (u := .type "tuple") (by rfl) nb.tuple (by decide +kernel) rfl) pa_nil))))) (pw_or (pt_cmpR op_ne (pe_callB call_len_seq (by rfl) nb.len PySem.boot_len (pa_cons (pv 2) pa_nil)) pe_int (nomark _)) (pw_or1 (pt_not (pt_val (pe_c c__is_text hr (by decide) rfl (pa_cons (pe_ix ix_tup (pv 2) pe_int (fun _ _ => rfl)) pa_nil))))))))
    (pss_one (ps_ret pe_bl))
    pss_nil)
    (pss_cons (ps_if (PW.pt (pw_and (pt_cmpR op_notN (pv 1) pe_non (nomark _)) (pw_and1 (pt_cmpR (op_leT (Nat.lt_of_succ_lt (hu_of hr))) (pe_ix ix_tup (pv 2) pe_int (fun _ _ => rfl)) (pv 1) (nomark _)))))
    (pss_one (ps_ret pe_bl))
    pss_nil)
    (pss_one (ps_set (i := 1) sc__are_entries.nd rfl (Or.inl rfl) (pe_ix ix_tup (pv 2) pe_int (fun _ _ => rfl)))))))
    (pss_one (ps_ret pe_bl)))), ?_⟩)
  obtain ⟨_, rfl, z, n, ds, t, hn, h⟩ := h
  obtain ⟨a, xs, rfl, ha, hl, r⟩ := tg_tup t
  walk_at "rd"
  refine ⟨a, rfl, ⟨xs, SqT.of ha⟩, r_eachT (xs := xs) (fun i σ H' => ∃ (lo : Option (List Int)) (lv : V) (y : Option V), Same H H' ∧ σ = [some (.ref a), some lv, y] ∧ entsB none ds = entsB lo (ds.drop i) ∧ (match lo with | none => lv = .non | some l => ∃ q, lv = .ref q ∧ H' q = some (.tup (l.map V.int)))) ⟨none, .non, none, Same.refl H, rfl, rfl, rfl⟩ (fun i σ H' q => ?_) ?_ ?_⟩
  · obtain ⟨_, _, _, s1, _⟩ := q
    exact SqT.of (s1 _ _ ha)
  · rintro i x σ H1 hx ⟨lo, lv, y, s1, rfl, e, hlo⟩
    obtain ⟨d, hd, t2⟩ := tgAll_get r hx
    have hi : i < ds.length := (List.getElem?_eq_some_iff.mp hd).1
    have ed : ds.drop i = d :: ds.drop (i + 1) := by
      rw [List.drop_eq_getElem_cons hi]
      congr 1
      rw [List.getElem?_eq_getElem hi] at hd
      exact Option.some.inj hd
    rw [ed] at e
    have e2 : entsB lo (d :: ds.drop (i + 1)) = (ent1 d && (ordB lo (keyOf d) && entsB (some (keyOf d)) (ds.drop (i + 1)))) := rfl
    rw [e2] at e
    clear e2
    have bad : ∀ H', Same H H' → ent1 d = false → Q (.bl false) H' := fun H' s c => by
      rw [c, Bool.false_and] at e
      rw [e] at h
      exact h H' s
    have t3 := t2.same s1
    walk_at "rd"
    refine i_tup t3 ?_
    walk_at "rd"
    cases t3 with
    | tup he hle re =>
      rename_i b us es
      rw [show isTup (.tuple es) = true from rfl]
      walk_at "rd"
      refine ⟨_, us, rfl, .inr (SqT.of he), ?_⟩
      walk_at "rd"
      refine r_iten (fun c => ?_) (fun c => ?_)
      · walk_at "rd"
        refine bad H1 s1 ?_
        have : us.length ≠ 2 := by omega
        have hel := tgAll_len re
        unfold ent1
        split
        · rename_i q
          cases q
          exact absurd hel this
        · rfl
      · obtain ⟨u1, u2, rfl⟩ : ∃ u1 u2, us = [u1, u2] := by
          match us, c with
          | [a, b], _ => exact ⟨a, b, rfl⟩
        cases re with
        | cons q1 re =>
        cases re with
        | cons q2 re =>
        cases re
        rename_i d1 d2
        walk_at "rd"
        refine r_ixT (SqT.of he) rfl ?_
        walk_at "rd"
        refine ⟨_, rfl, z, n, d1, q1, hn, fun H2 s2 => ?_⟩
        walk_at "rd"
        have ee : ent1 (.tuple [d1, d2]) = isTextD d1 := rfl
        rw [ee] at e bad
        cases c1 : isTextD d1 with
        | false =>
          walk_at "rd"
          exact bad H2 (s1.trans s2) c1
        | true =>
          rw [c1, Bool.true_and] at e
          obtain ⟨ns, rfl⟩ := text_is c1
          have s12 := s1.trans s2
          obtain ⟨kq, kxs, rfl, hkq, _, rk⟩ := tg_tup q1
          have := tg_intsB rk
          subst this
          have ek : keyOf (.tuple [.tuple (ns.map PyData.int), d2]) = ns := intD_ints ns
          rw [ek] at e
          walk_at "rd"
          cases lo with
          | none =>
            obtain rfl : lv = .non := hlo
            rw [show ordB none ns = true from rfl, Bool.true_and] at e
            refine r_no rfl ?_
            walk_at "rd"
            refine r_ixT (SqT.of (s2 _ _ he)) rfl ?_
            walk_at "rd"
            exact ⟨some ns, _, _, s12, rfl, e, kq, rfl, s2 _ _ hkq⟩
          | some l =>
            obtain ⟨lq, rfl, hlq⟩ := hlo
            refine r_iten (fun _ => ?_) (fun q => by cases q)
            walk_at "rd"
            refine r_ixT (SqT.of (s2 _ _ he)) rfl ?_
            walk_at "rd"
            refine ⟨kq, lq, ns, l, rfl, rfl, SqT.of (s2 _ _ hkq), SqT.of (s2 _ _ hlq), ?_⟩
            rw [lexAt_le ns l ns l 0 rfl rfl (Nat.zero_add _).symm (Nat.zero_add _).symm]
            walk_at "rd"
            have eo : ordB (some l) ns = HT.lexLt l ns := rfl
            rw [eo] at e
            cases c2 : HT.lexLt l ns with
            | false =>
              rw [c2, Bool.false_and] at e
              rw [e] at h
              walk_at "rd"
              exact h H2 s12
            | true =>
              rw [c2, Bool.true_and] at e
              walk_at "rd"
              refine r_ixT (SqT.of (s2 _ _ he)) rfl ?_
              walk_at "rd"
              exact ⟨some ns, _, _, s12, rfl, e, kq, rfl, s2 _ _ hkq⟩
    | _ =>
      rw [show isTup _ = false from rfl]
      walk_at "rd"
      exact bad H1 s1 rfl
  · rintro σ H1 ⟨lo, lv, y, s1, rfl, e, hlo⟩
    walk_at "rd"
    rw [tgAll_len r, List.drop_length] at e
    rw [e] at h
    exact h H1 s1
theorem ok__fits (F : FunD K "_fits" "_fits" (defArgs s__fits) (defBody s__fits) (defScope s__fits) [] [] (glAd "_fits" K) fd) (m : mg "_fits" = some (.ref (glAd "_fits" K))) (nb : Nm w K mg) (c__is_octet : Cal P w K mg base 2 "_is_octet" (sp__is_octet K) []) (c__is_text : Cal P w K mg base 3 "_is_text" (sp__is_text K) []) (c__are_entries : Cal P w K mg base 4 "_are_entries" (sp__are_entries K) []) : Cal P w K mg base 5 "_fits" (sp__fits K) [] := by
  refine calD F m sc__fits (fun _ _ _ _ _ _ us hl => match us, hl with | [_, _], _ => rfl) len2 (fun cdv A outer s H vs Q E hr h => ⟨_, (pss_cons (ps_if (pt_cmpR op_eq (pv 0) pe_str (nomark _))
    (pss_one (ps_ret (pe_or (pe_cmpR op_isB (pv 1) pe_bl (nomark _)) (pe_one (pe_cmpR op_isB (pv 1) pe_bl (nomark _))))))
    pss_nil)
    (pss_cons (ps_if (pt_not (pt_val (pe_callB call_isi (by rfl) nb.isinstance (by decide +kernel) (pa_cons (pv 1) (pa_cons (pe_bltn (v := .ty "tuple") (u := .type "tuple") (by rfl) nb.tuple (by decide +kernel) rfl) pa_nil)))))
    (pss_one (ps_ret pe_bl))
    pss_nil)
    (pss_cons (ps_if (pt_cmpR op_eq (pv 0) pe_str (nomark _))
    (pss_one (ps_ret (pe_callB (cr_all rfl) (by rfl) nb.all (by decide +kernel) (pa_cons (pe_lc (own := [("octet", 2)]) (g := gName 2) (tt := tYes) rfl sc__fits.nd (pi_tup (pv 1)) (blkOk_by (N := ["kind", "content", "octet"]) (sc := defScope s__fits) (by decide +kernel)) (fun _ _ _ _ _ => pg_name (i := 2) sc__fits.nd rfl (Or.inl rfl)) (fun _ _ _ _ _ => pts_nil) (fun _ _ _ _ _ => (pe_c c__is_octet hr (by decide) rfl (pa_cons (pv 2) pa_nil)))) pa_nil))))
    pss_nil)
    (pss_cons (ps_if (pt_cmpR op_eq (pv 0) pe_str (nomark _))
    (pss_one (ps_ret (pe_c c__is_text hr (by decide) rfl (pa_cons (pv 1) pa_nil))))
    pss_nil)
    (pss_one (ps_ret (pe_or (pe_cmpR op_eq (pv 0) pe_str (nomark _)) (pe_one (pe_c c__are_entries hr (by decide) rfl (pa_cons (pv 1) pa_nil)))))))))), ?_⟩)
  obtain ⟨_, _, rfl, z, n, k, d, rfl, t, hn, k1, k2, k3, h⟩ := h
  unfold fitsB at h
  walk_at "rd"
  refine r_ite (fun c => ?_) (fun c => ?_)
  · rw [if_pos c] at h
    walk_at "rd"
    have hq := h H (Same.refl H)
    cases t with
    | bl b =>
      cases b with
      | true => exact hq
      | false =>
        walk_at "rd"
        refine r_iteN (fun q => by cases q) ?_
        walk_at "rd"
        rw [decide_eq_true rfl]
        exact hq
    | _ =>
      refine r_iteN (fun q => by cases q) ?_
      walk_at "rd"
      rw [decide_eq_false (fun q => by cases q)]
      exact hq
  · rw [if_neg c] at h
    walk_at "rd"
    refine i_tup t ?_
    walk_at "rd"
    cases t with
    | tup ha hl r =>
      rename_i a xs ds
      dsimp only at h
      rw [show isTup (.tuple ds) = true from rfl]
      walk_at "rd"
      refine r_ite (fun c2 => ?_) (fun c2 => ?_)
      · rw [if_pos c2] at h
        walk_at "rd"
        refine ⟨a, rfl, ⟨xs, SqT.of ha⟩, fun D nD => ?_⟩
        refine lc_tup (xs := xs) (fun i H' => Same H H' ∧ H' D = some (.lst (((ds.take i).map isOct).map V.bl))) ⟨same_upd nD _, upd_same⟩ (fun i H' _ q => SqT.of (q.1 _ _ ha)) ?_ ?_
        · rintro i x H' hx ⟨s1, hD⟩
          obtain ⟨d, hd, t⟩ := tgAll_get r hx
          have hi : i < xs.length := (List.getElem?_eq_some_iff.mp hx).1
          walk_at "rd"
          refine ⟨rfl, ?_⟩
          walk_at "rd"
          refine ⟨_, rfl, z, n, d, t.same s1, ?_⟩
          refine ⟨_, hD, small4k (by rw [List.length_map, List.length_map, List.length_take]; omega), ?_, ?_⟩
          · intro b o hb
            rw [upd_ne (ne_of_none hb nD)]
            exact s1 _ _ hb
          · rw [upd_same, take_oneD hd, List.map_append, List.map_append]
            rfl
        · rintro H' ⟨s1, hD⟩
          walk_at "rd"
          rw [tgAll_len r, List.take_length] at hD
          refine ⟨D, _, rfl, SqL.of hD, ?_⟩
          rw [all_id]
          exact h H' s1
      · rw [if_neg c2] at h
        walk_at "rd"
        refine r_ite (fun c3 => ?_) (fun c3 => ?_)
        · rw [if_pos c3] at h
          walk_at "rd"
          exact ⟨_, rfl, z, n, .tuple ds, .tup ha hl r, hn, fun H1 s1 => h H1 s1⟩
        · rw [if_neg c3] at h
          walk_at "rd"
          refine r_ite (fun c4 => ?_) (fun c4 => ?_)
          · rw [if_pos c4] at h
            exact h H (Same.refl H)
          · rw [if_neg c4] at h
            walk_at "rd"
            exact ⟨_, rfl, z, n, ds, .tup ha hl r, hn, fun H1 s1 => h H1 s1⟩
    | _ =>
      rw [show isTup _ = false from rfl]
      walk_at "rd"
      exact h H (Same.refl H)
theorem ok__is_sound (F : FunD K "_is_sound" "_is_sound" (defArgs s__is_sound) (defBody s__is_sound) (defScope s__is_sound) [] [] (glAd "_is_sound" K) fd) (m : mg "_is_sound" = some (.ref (glAd "_is_sound" K))) (nb : Nm w K mg) (c__fits : Cal P w K mg base 5 "_fits" (sp__fits K) []) (c__is_number : Cal P w K mg base 2 "_is_number" (sp__is_number K) []) : Cal P w K mg base 6 "_is_sound" (sp__is_sound K) [] := by
  obtain ⟨v_LENGTHS, u_LENGTHS, e_LENGTHS, r_LENGTHS, k_LENGTHS⟩ := nb.g_LENGTHS
  refine calD F m sc__is_sound (fun _ _ _ _ _ _ us hl => match us, hl with | [_], _ => rfl) len1 (fun cdv A outer s H vs Q E hr h => ⟨_, (pss_cons (ps_if (PW.pt (pw_or (pt_not (pt_val (pe_callB call_isi (by rfl) nb.isinstance (by decide +kernel) (pa_cons (pv 0) (pa_cons (pe_bltn (v := .ty "tuple") (u := .type "tuple") (by rfl) nb.tuple (by decide +kernel) rfl) pa_nil))))) (pw_or (pt_cmpR op_eq (pe_callB call_len_seq (by rfl) nb.len PySem.boot_len (pa_cons (pv 0) pa_nil)) pe_int (nomark _)) (pw_or1 (pt_not (pt_val (pe_callB call_isi (by rfl) nb.isinstance (by decide +kernel) (pa_cons (pe_ix ix_tup (pv 0) pe_int (fun _ _ => rfl)) (pa_cons (pe_bltn (v := .ty "str") (u := .type "str") (by rfl) nb.str (by decide +kernel) rfl) pa_nil)))))))))
    (pss_one (ps_ret pe_bl))
    pss_nil)
    (pss_cons (ps_if (pt_cmpR op_ne (pe_kget2 (pe_gc rfl ⟨u_LENGTHS, e_LENGTHS, r_LENGTHS⟩) (pe_ix ix_tup (pv 0) pe_int (fun _ _ => rfl)) pe_int ⟨by rfl, by rfl, by rfl, by rfl⟩) (pe_callB call_len_seq (by rfl) nb.len PySem.boot_len (pa_cons (pv 0) pa_nil)) (nomark _))
    (pss_one (ps_ret pe_bl))
    pss_nil)
    (pss_cons (ps_if (pt_cmpR op_eq (pe_ix ix_tup (pv 0) pe_int (fun _ _ => rfl)) pe_str (nomark _))
    (pss_one (ps_ret (pe_c c__is_number hr (by decide) rfl (pa_cons (pe_ix ix_tup (pv 0) pe_int (fun _ _ => rfl)) (pa_cons (pe_ix ix_tup (pv 0) pe_int (fun _ _ => rfl)) pa_nil)))))
    pss_nil)
    (pss_one (ps_ret (pe_or (pe_cmpR op_eq (pe_ix ix_tup (pv 0) pe_int (fun _ _ => rfl)) pe_str (nomark _)) (pe_one (pe_c c__fits hr (by decide) rfl (pa_cons (pe_ix ix_tup (pv 0) pe_int (fun _ _ => rfl)) (pa_cons (pe_ix ix_tup (pv 0) pe_int (fun _ _ => rfl)) pa_nil)))))))))), ?_⟩)
  obtain ⟨_, rfl, z, n, d, t, hn, h⟩ := h
  walk_at "rd"
  refine i_tup t ?_
  walk_at "rd"
  cases t with
  | tup ha hl r =>
    rename_i a us ds
    rw [show isTup (.tuple ds) = true from rfl]
    walk_at "rd"
    refine ⟨_, us, rfl, .inr (SqT.of ha), ?_⟩
    walk_at "rd"
    cases r with
    | nil =>
      walk_at "rd"
      exact h H (Same.refl H)
    | cons r1 r =>
      rename_i u d us ds
      refine r_iteN (by rw [List.length_cons]; omega) ?_
      walk_at "rd"
      refine r_ixT (SqT.of ha) at0' ?_
      walk_at "rd"
      refine i_str r1 ?_
      walk_at "rd"
      cases r1 with
      | str k hk =>
        rw [show isStr (.str k) = true from rfl]
        walk_at "rd"
        obtain ⟨ta, e, tt⟩ := k_LENGTHS
        subst e
        refine ⟨ta, _, rfl, tt, ?_⟩
        walk_at "rd"
        refine r_ixT (SqT.of ha) at0' ?_
        walk_at "rd"
        refine ⟨.inr k, rfl, ?_⟩
        rw [lens_val]
        walk_at "rd"
        refine ⟨_, _, rfl, .inr (SqT.of ha), ?_⟩
        walk_at "rd"
        have hul := tgAll_len r
        unfold isSnd at h
        dsimp only at h
        refine r_iten (fun c => ?_) (fun c => ?_)
        · rw [decide_eq_false (fun q => c (by rw [List.length_cons, hul]; omega)), Bool.false_and] at h
          walk_at "rd"
          exact h H (Same.refl H)
        have c2 : lensB k = ds.length + 1 := by
          rw [List.length_cons, hul] at c
          omega
        rw [decide_eq_true c2, Bool.true_and] at h
        walk_at "rd"
        refine r_ixT (SqT.of ha) at0' ?_
        walk_at "rd"
        refine r_ite (fun c3 => ?_) (fun c3 => ?_)
        · subst c3
          have hd2 : ds.length = 2 := by
            have : lensB "number" = 3 := rfl
            omega
          match us, ds, hd2, r, hl, ha, h with
          | [u1, u2], [d1, d2], _, .cons r1 (.cons r2 .nil), hl, ha, h =>
            walk_at "rd"
            refine r_ixT (SqT.of ha) (by rfl) ?_
            walk_at "rd"
            refine r_ixT (SqT.of ha) (by rfl) ?_
            exact ⟨_, _, rfl, z, n, d1, d2, r1, r2, h H (Same.refl H)⟩
        · walk_at "rd"
          refine r_ixT (SqT.of ha) at0' ?_
          walk_at "rd"
          refine r_ite (fun c4 => ?_) (fun c4 => ?_)
          · subst c4
            have hd2 : ds.length = 0 := by
              have : lensB "null" = 1 := rfl
              omega
            match ds, hd2, h with
            | [], _, h => exact h H (Same.refl H)
          · have hd2 : ds.length = 1 := by
              unfold lensB at c2
              rw [if_neg c4] at c2
              by_cases q2 : k = "truth"
              · rw [if_pos q2] at c2; omega
              rw [if_neg q2, if_neg c3] at c2
              by_cases q4 : k = "bytes"
              · rw [if_pos q4] at c2; omega
              rw [if_neg q4] at c2
              by_cases q5 : k = "text"
              · rw [if_pos q5] at c2; omega
              rw [if_neg q5] at c2
              by_cases q6 : k = "list"
              · rw [if_pos q6] at c2; omega
              rw [if_neg q6] at c2
              by_cases q7 : k = "map"
              · rw [if_pos q7] at c2; omega
              rw [if_neg q7] at c2
              omega
            obtain ⟨d1, rfl⟩ : ∃ d1, ds = [d1] := by
              match ds, hd2 with
              | [d1], _ => exact ⟨d1, rfl⟩
            cases r with
            | cons r1 r =>
            cases r
            walk_at "rd"
            refine r_ixT (SqT.of ha) at0' ?_
            walk_at "rd"
            refine r_ixT (SqT.of ha) (by rfl) ?_
            exact ⟨_, _, rfl, z, n, k, d1, rfl, r1, hn, c4, c3, by omega, fun H1 s1 => h H1 s1⟩
      | _ =>
        rw [show isStr _ = false from rfl]
        walk_at "rd"
        exact h H (Same.refl H)
  | _ =>
    rw [show isTup _ = false from rfl]
    walk_at "rd"
    exact h H (Same.refl H)
end

/-! ### is_value -/
mutual
def szD : PyData → Nat
  | .tuple ds => 1 + szL ds
  | .list ds => 1 + szL ds
  | .none => 1
  | .bool _ => 1
  | .int _ => 1
  | .str _ => 1
  | .dict _ => 1
def szL : List PyData → Nat
  | [] => 0
  | d :: ds => szD d + szL ds
end
theorem szD_pos (d : PyData) : 1 ≤ szD d := by
  cases d <;> simp [szD]
theorem sz_entV (ds : List PyData) : szL (ds.map entV) ≤ szL ds := by
  induction ds with
  | nil => exact Nat.le_refl _
  | cons d ds ih =>
    rw [List.map_cons]
    show szD (entV d) + szL (ds.map entV) ≤ szD d + szL ds
    have : szD (entV d) ≤ szD d := by
      unfold entV
      split
      · rename_i a v
        show _ ≤ 1 + (szD a + (szD v + 0))
        omega
      · have := szD_pos d
        show 1 ≤ _
        omega
    omega
theorem kids_sz (d : PyData) : szL (kids d) < szD d := by
  unfold kids
  split
  · rename_i k ds
    have e : szD (.tuple [.str k, .tuple ds]) = 1 + (1 + ((1 + szL ds) + 0)) := rfl
    have := sz_entV ds
    split
    · omega
    · split
      · omega
      · show 0 < _
        omega
  · have := szD_pos d
    show 0 < _
    omega
def isv : Nat → PyData → Bool
  | 0, d => isSnd d && !isCon d
  | n + 1, d => isSnd d && (kids d).all (isv n)
theorem con_is {d : PyData} (h : isSnd d = true) (c : isCon d = true) : ∃ k ds, d = .tuple [.str k, .tuple ds] ∧ (k = "list" ∨ k = "map" ∧ entsB none ds = true) := by
  unfold isCon at c
  split at c
  · rename_i k r
    unfold isSnd at h
    dsimp only at h
    obtain ⟨h1, h2⟩ := both h
    have h1 := of_decide_eq_true h1
    have hk : k = "list" ∨ k = "map" := by
      rcases Bool.or_eq_true_iff.mp c with q | q
      · exact .inl (of_decide_eq_true q)
      · exact .inr (of_decide_eq_true q)
    have hl : lensB k = 2 := by
      rcases hk with q | q <;> rw [q] <;> rfl
    match r, h1, h2 with
    | [x], _, h2 =>
      have h2 : fitsB k x = true := h2
      unfold fitsB at h2
      have n1 : ¬ k = "truth" := by rcases hk with q | q <;> rw [q] <;> decide
      rw [if_neg n1] at h2
      cases x with
      | tuple ds =>
        dsimp only at h2
        have n2 : ¬ k = "bytes" := by rcases hk with q | q <;> rw [q] <;> decide
        have n3 : ¬ k = "text" := by rcases hk with q | q <;> rw [q] <;> decide
        rw [if_neg n2, if_neg n3] at h2
        refine ⟨k, ds, rfl, ?_⟩
        rcases hk with q | q
        · exact .inl q
        · refine .inr ⟨q, ?_⟩
          rw [if_neg (by rw [q]; decide)] at h2
          exact h2
      | _ => cases h2
    | [], h1, _ => rw [hl] at h1; cases h1
    | _ :: _ :: _, h1, _ => rw [hl, List.length_cons, List.length_cons] at h1; omega
  · cases c
theorem kids_no {d : PyData} (c : isCon d = false) : kids d = [] := by
  unfold kids
  split
  · rename_i k ds
    have c : (decide (k = "list") || decide (k = "map")) = false := c
    obtain ⟨c1, c2⟩ := Bool.or_eq_false_iff.mp c
    rw [if_neg (of_decide_eq_false c1), if_neg (of_decide_eq_false c2)]
  · rfl
theorem snd_is {d : PyData} (h : isSnd d = true) : ∃ k r, d = .tuple (.str k :: r) := by
  unfold isSnd at h
  split at h
  · exact ⟨_, _, rfl⟩
  · cases h
theorem isv_eq {l : Nat} (hl : l ≤ 24) (d : PyData) : isv (24 - l) d = (isSnd d && (if isCon d = true then (decide (l ≠ 24) && (kids d).all (isv (24 - (l + 1)))) else true)) := by
  by_cases c : l = 24
  · subst c
    show (isSnd d && !isCon d) = _
    cases isCon d <;> rfl
  · rw [show 24 - l = (24 - (l + 1)) + 1 by omega]
    show (isSnd d && (kids d).all (isv (24 - (l + 1)))) = _
    cases q : isCon d with
    | false =>
      rw [kids_no q, if_neg Bool.false_ne_true]
      rfl
    | true =>
      rw [if_pos rfl, decide_eq_true c, Bool.true_and]
abbrev Itm := PyData × Nat
def szI (its : List Itm) : Nat := szL (its.map (·.1))
theorem szL_app (a b : List PyData) : szL (a ++ b) = szL a + szL b := by
  induction a with
  | nil => simp [szL]
  | cons x a ih =>
    show szD x + szL (a ++ b) = szD x + szL a + szL b
    rw [ih, Nat.add_assoc]
theorem in_two {x a b : Str} : inV (.str x) [.str a, .str b] = (decide (a = x) || decide (b = x)) := by
  unfold inV
  show (eqV (.str a) (.str x) || (eqV (.str b) (.str x) || false)) = _
  rw [Bool.or_false]
  have e : ∀ u v : Str, eqV (.str u) (.str v) = decide (u = v) := fun u v => by
    by_cases q : u = v
    · subst q
      simp [eqV]
    · simp [eqV, q]
  rw [e, e]
def alv (its : List Itm) : Bool := its.all fun i => isv (24 - i.2) i.1
/-- the stack: pairs of a thing and its level -/
def Stk (H : Hp) (z : Addr) (n : Nat) (ws : List V) (its : List Itm) : Prop := ws.length = its.length ∧ ∀ (i : Nat) (d : PyData) (l : Nat), its[i]? = some (d, l) → ∃ (t : Addr) (v : V), ws[i]? = some (V.ref t) ∧ H t = some (.tup [v, .int (l : Int)]) ∧ Tg H z n v d
theorem Stk.keep {H H' : Hp} {z : Addr} {n : Nat} {ws : List V} {its : List Itm} (nt : NoTup H z) (b : Btz z H H') (s : Stk H z n ws its) : Stk H' z n ws its :=
  ⟨s.1, fun i d l h => by
    obtain ⟨t, v, h1, h2, h3⟩ := s.2 i d l h
    exact ⟨t, v, h1, b t _ (fun e => nt _ (e ▸ h2)) h2, h3.btz nt b⟩⟩
theorem Stk.init {H : Hp} {z : Addr} {n : Nat} {ws : List V} {its : List Itm} {i : Itm} {w : V} (s : Stk H z n (ws ++ [w]) (its ++ [i])) : Stk H z n ws its := by
  have hl : ws.length = its.length := by
    have := s.1
    simpa using this
  refine ⟨hl, fun j d l h => ?_⟩
  have hj : j < its.length := (List.getElem?_eq_some_iff.mp h).1
  obtain ⟨t, v, h1, h2, h3⟩ := s.2 j d l (by rw [List.getElem?_append_left hj]; exact h)
  rw [List.getElem?_append_left (by omega)] at h1
  exact ⟨t, v, h1, h2, h3⟩
theorem Stk.app {H : Hp} {z : Addr} {n : Nat} {ws us : List V} {its jts : List Itm} (s : Stk H z n ws its) (t : Stk H z n us jts) : Stk H z n (ws ++ us) (its ++ jts) := by
  refine ⟨by rw [List.length_append, List.length_append, s.1, t.1], fun i d l h => ?_⟩
  by_cases c : i < its.length
  · rw [List.getElem?_append_left c] at h
    rw [List.getElem?_append_left (by rw [s.1]; exact c)]
    exact s.2 i d l h
  · rw [List.getElem?_append_right (by omega)] at h
    rw [List.getElem?_append_right (by rw [s.1]; omega), s.1]
    exact t.2 _ d l h
def Lvl (its : List Itm) : Prop := ∀ (i : Nat) (d : PyData) (l : Nat), its[i]? = some (d, l) → i < 1000 * (l + 1) ∧ l ≤ 24
abbrev s_is_value : Stmt := (top 5)
theorem sc_is_value : FnScope ["thing", "waiting", "found", "level", "part"] ["thing"] (defScope s_is_value) := ⟨rfl, rfl, rfl, by decide +kernel, rfl, by decide +kernel, by decide +kernel⟩
def sp_is_value (K : Frg) : Sp := sp1 fun a H Q _ => ∃ z n d, Tg H z n a d ∧ n ≤ 1000 ∧ ∀ H', Same H H' → Q (.bl (isv 24 d)) H'
section
variable {P : Program} {w : World} {K : PySem.W.Frag} {mg : Str → Option Value} {base : Heap} {f : Addr} {fd : FuncData}
theorem ok_is_value (F : FunD K "is_value" "is_value" (defArgs s_is_value) (defBody s_is_value) (defScope s_is_value) [] [] (glAd "is_value" K) fd) (m : mg "is_value" = some (.ref (glAd "is_value" K))) (nb : Nm w K mg) (c_parts : Cal P w K mg base 1 "parts" (sp_parts K) []) (c__is_sound : Cal P w K mg base 6 "_is_sound" (sp__is_sound K) []) : Cal P w K mg base 7 "is_value" (sp_is_value K) [] := by
  refine calD F m sc_is_value (fun _ _ _ _ _ _ us hl => match us, hl with | [_], _ => rfl) len1 (fun cdv A outer s H vs Q E hr h => ⟨_, (pss_cons (ps_set (i := 1) sc_is_value.nd rfl (Or.inl rfl) (pe_lst (pa_cons (pe_tup (pa_cons (pv 0) (pa_cons pe_int pa_nil))) pa_nil)))
    (pss_cons (ps_while PassesOwn.never (pt_truth (pv 1) (by intro _; rfl))
    (pss_cons (ps_asg (pe_bm0 PySem.F.plainAttrs_list PySem.F.slot_list_pop PySem.F.type_list_pop mt_pop (pv 1)) (pg_tup rfl (pgs_cons (pg_name (i := 2) sc_is_value.nd rfl (Or.inl rfl)) (pgs_cons (pg_name (i := 3) sc_is_value.nd rfl (Or.inr rfl)) pgs_nil))))
    (pss_cons (ps_if (pt_not (pt_val (pe_c c__is_sound hr (by decide) rfl (pa_cons (pv 2) pa_nil))))
    (pss_one (ps_ret pe_bl))
    pss_nil)
    (pss_one (ps_if (pt_cmpR op_in_seq (pe_ix ix_tup (pv 2) pe_int (fun _ _ => rfl)) (pe_tup (pa_cons pe_str (pa_cons pe_str pa_nil))) rfl)
    (pss_cons (ps_if (pt_cmpR op_eq (pv 3) (pe_gc rfl nb.g_DEEPEST) (nomark _))
    (pss_one (ps_ret pe_bl))
    pss_nil)
    (pss_one (ps_expr (pe_bm PySem.F.plainAttrs_list PySem.F.slot_list_extend PySem.F.type_list_extend mt_extend (pv 1) (pa_cons (pe_lc (own := [("part", 4)]) (g := gName 4) (tt := tYes) rfl sc_is_value.nd (pi_tup (pe_c c_parts hr (by decide) rfl (pa_cons (pv 2) pa_nil))) (blkOk_by (N := ["thing", "waiting", "found", "level", "part"]) (sc := defScope s_is_value) (by decide +kernel)) (fun _ _ _ _ _ => pg_name (i := 4) sc_is_value.nd rfl (Or.inl rfl)) (fun _ _ _ _ _ => pts_nil) (fun _ _ _ _ _ => (pe_tup (pa_cons (pv 4) (pa_cons (pe_op op_add (pv 3) pe_int) pa_nil))))) pa_nil)))))
    pss_nil)))))
    (pss_one (ps_ret pe_bl)))), ?_⟩)
  obtain ⟨v0, rfl, z, n, d0, t, hn, h⟩ := h
  walk_at "rd"
  refine ⟨by show 2 ≤ sizeLine; decide, fun q nq => ?_⟩
  walk_at "rd"
  refine ⟨by show 1 ≤ sizeLine; decide, fun p np => ?_⟩
  have s1 := same_upd nq (.tup [v0, .int 0])
  have s2 := s1.trans (same_upd np (.lst [.ref q]))
  walk_at "rd"
  refine r_while (fun m σ H' => ∃ (ws : List V) (its : List Itm) (y2 y3 : Option V), σ = [some v0, some (.ref p), y2, y3, none] ∧ H' p = some (.lst ws) ∧ Stk H' p 1000 ws its ∧ Lvl its ∧ Same H H' ∧ alv its = isv 24 d0 ∧ m = szI its) _ ⟨[.ref q], [(d0, 0)], none, none, rfl, upd_same, ⟨rfl, ?_⟩, ?_, s2, ?_, rfl⟩ ?_
  · rintro i d l h
    match i, h with
    | 0, h =>
      cases (show some (d0, 0) = some (d, l) from h)
      exact ⟨q, v0, rfl, (same_upd np _) _ _ upd_same, ((t.move (s1.free np)).mono hn).same s2⟩
    | i + 1, h => simp at h
  · rintro i d l h
    match i, h with
    | 0, h =>
      cases (show some (d0, 0) = some (d, l) from h)
      exact ⟨by decide, by decide⟩
    | i + 1, h => simp at h
  · show (isv (24 - 0) d0 && true) = _
    rw [Bool.and_true]
  rintro m σ H1 ⟨ws, its, y2, y3, rfl, hp, stk, lvl, s3, al, rfl⟩
  walk_at "rd"
  refine ⟨_, .inl ⟨ws, SqL.of hp, rfl⟩, ?_⟩
  rcases List.eq_nil_or_concat its with e | ⟨its, ⟨d, l⟩, e⟩
  · subst e
    have hw : ws = [] := List.length_eq_zero_iff.mp stk.1
    subst hw
    refine r_iteF ?_
    walk_at "rd"
    have e : isv 24 d0 = true := al.symm
    rw [e] at h
    exact h H1 s3
  rw [List.concat_eq_append] at e
  subst e
  obtain ⟨us, w0, rfl⟩ : ∃ us w, ws = us ++ [w] := by
    rcases List.eq_nil_or_concat ws with e | ⟨us, w, e⟩
    · subst e
      have := stk.1
      simp at this
    · exact ⟨us, w, by rw [e, List.concat_eq_append]⟩
  have hul : us.length = its.length := by
    have := stk.1
    simpa using this
  have stk1 := stk.init
  obtain ⟨t0, v, h1, h2, h3⟩ := stk.2 its.length d l (by simp)
  obtain ⟨l1, l2⟩ := lvl its.length d l (by simp)
  rw [← hul, List.getElem?_append_right (Nat.le_refl _), Nat.sub_self] at h1
  cases (show some w0 = some (V.ref t0) from h1)
  have ett : (!(us ++ [V.ref t0]).isEmpty) = true := by cases us <;> rfl
  rw [ett]
  refine r_iteT ?_
  refine r_turn ?_
  walk_at "rd"
  refine ⟨tyL hp, p, _, V.ref t0, rfl, rfl, hp, by simp, ?_⟩
  rw [List.dropLast_concat]
  have b1 : Btz p H1 (upd H1 p (.lst us)) := Btz.put _
  have hp1 : upd H1 p (.lst us) p = some (.lst us) := upd_same
  have s4 : Same H (upd H1 p (.lst us)) := fun b o hb => by
    rw [upd_ne (ne_of_none hb (s1.free np))]
    exact s3 _ _ hb
  have stk2 := stk1.keep (noTup_lst hp) b1
  have h3 := h3.btz (noTup_lst hp) b1
  have h2 := b1 t0 _ (fun e => noTup_lst hp _ (e ▸ h2)) h2
  generalize upd H1 p (.lst us) = H2 at *
  refine r_gtup (SqT.of h2) rfl ?_
  walk_at "rd"
  refine ⟨_, rfl, p, 1000, d, h3, by decide, fun H3 s5 => ?_⟩
  walk_at "rd"
  have al2 : alv (its ++ [(d, l)]) = (alv its && isv (24 - l) d) := by
    unfold alv
    rw [List.all_append]
    simp
  rw [al2] at al
  have bad : ∀ H', Same H H' → isv (24 - l) d = false → Q (.bl false) H' := fun H' s c => by
    rw [c, Bool.and_false] at al
    rw [← al] at h
    exact h H' s
  have hgo := isv_eq l2 d
  cases c1 : isSnd d with
  | false =>
    walk_at "rd"
    refine bad H3 (s4.trans s5) ?_
    rw [hgo, c1, Bool.false_and]
  | true =>
    rw [c1, Bool.true_and] at hgo
    walk_at "rd"
    obtain ⟨k, r, rfl⟩ := snd_is c1
    have h35 := h3.same s5
    obtain ⟨a, xs, rfl, ha, hxl, rx⟩ := tg_tup h35
    cases rx with
    | cons r1 rx =>
    cases r1
    refine r_ixT (SqT.of ha) at0' ?_
    walk_at "rd"
    refine ⟨by show 2 ≤ sizeLine; decide, fun T0 nT0 => ?_⟩
    have s6 := same_upd nT0 (.tup [.str "list", .str "map"])
    refine ⟨T0, _, rfl, .inr (SqT.of upd_same), rfl, rfl, ?_⟩
    generalize upd H3 T0 (.tup [.str "list", .str "map"]) = H4 at s6 ⊢
    rw [in_two]
    have ec : isCon (.tuple (.str k :: r)) = (decide (("list" : Str) = k) || decide (("map" : Str) = k)) := by
      show (decide (k = "list") || decide (k = "map")) = _
      have q1 : decide (k = "list") = decide (("list" : Str) = k) := decide_eq_decide.mpr ⟨Eq.symm, Eq.symm⟩
      have q2 : decide (k = "map") = decide (("map" : Str) = k) := decide_eq_decide.mpr ⟨Eq.symm, Eq.symm⟩
      rw [q1, q2]
    rw [← ec]
    have s46 := (s5.trans s6)
    have nt2 := noTup_lst hp1
    cases c2 : isCon (.tuple (.str k :: r)) with
    | false =>
      rw [c2, if_neg Bool.false_ne_true] at hgo
      rw [hgo, Bool.and_true] at al
      walk_at "rd"
      refine ⟨szI its, ?_, us, its, _, _, rfl, s46 _ _ hp1, stk2.keep nt2 (Btz.of s46), fun i d' l' hi => lvl i d' l' ?_, s4.trans s46, al, rfl⟩
      · unfold szI
        rw [List.map_append, szL_app]
        have := szD_pos (.tuple (.str k :: r))
        show _ < _ + (szD (.tuple (.str k :: r)) + 0)
        omega
      · rw [List.getElem?_append_left (List.getElem?_eq_some_iff.mp hi).1]
        exact hi
    | true =>
      rw [c2, if_pos rfl] at hgo
      walk_at "rd"
      refine r_iteT ?_
      walk_at "rd"
      refine r_ite (fun c3 => ?_) (fun c3 => ?_)
      · walk_at "rd"
        refine bad H4 (s4.trans s46) ?_
        rw [hgo, decide_eq_false (show ¬ l ≠ 24 by omega), Bool.false_and]
      rw [decide_eq_true (show l ≠ 24 by omega), Bool.true_and] at hgo
      obtain ⟨k', ds, e, hk⟩ := con_is c1 c2
      cases e
      walk_at "rd"
      refine ⟨tyL (s46 _ _ hp1), ?_⟩
      walk_at "rd"
      refine ⟨_, rfl, p, 1000, k, ds, h3.same s46, by decide, hk, fun pp ps H5 hpp hpl tps s7 => ?_⟩
      refine ⟨pp, rfl, ⟨ps, SqT.of hpp⟩, fun D nD => ?_⟩
      have s57 := s46.trans s7
      refine lc_tup (xs := ps) (fun i H' => ∃ us' : List V, Same H5 H' ∧ H' D = some (.lst us') ∧ us'.length = i ∧ ∀ j, j < i → ∃ (t : Addr) (x : V), us'[j]? = some (V.ref t) ∧ ps[j]? = some x ∧ H' t = some (.tup [x, .int ((l : Int) + 1)])) ⟨[], same_upd nD _, upd_same, rfl, fun j hj => absurd hj (Nat.not_lt_zero _)⟩ (fun i H' _ q => by obtain ⟨_, q1, _⟩ := q; exact SqT.of (q1 _ _ hpp)) ?_ ?_
      · rintro i x H6 hx ⟨us', s8, hD, hul', sk⟩
        have hi : i < ps.length := (List.getElem?_eq_some_iff.mp hx).1
        walk_at "rd"
        refine ⟨rfl, ?_⟩
        walk_at "rd"
        refine ⟨by show 2 ≤ sizeLine; decide, fun T1 nT1 => ?_⟩
        have s9 := same_upd nT1 (.tup [x, .int ((l : Int) + 1)])
        have hT1 : upd H6 T1 (.tup [x, .int ((l : Int) + 1)]) T1 = some (.tup [x, .int ((l : Int) + 1)]) := upd_same
        have hD2 := s9 _ _ hD
        have s89 := s8.trans s9
        generalize upd H6 T1 (.tup [x, .int ((l : Int) + 1)]) = H7 at *
        have b2 : Btz D H7 (upd H7 D (.lst (us' ++ [V.ref T1]))) := Btz.put _
        have nDt := noTup_lst hD2
        have up : ∀ t xs, H7 t = some (.tup xs) → upd H7 D (.lst (us' ++ [V.ref T1])) t = some (.tup xs) := fun t xs q => b2 t _ (fun e => nDt _ (e ▸ q)) q
        refine ⟨us', hD2, small4k (by omega), us' ++ [V.ref T1], ?_, upd_same, by rw [List.length_append, hul']; rfl, fun j hj => ?_⟩
        · intro b o hb
          rw [upd_ne (ne_of_none hb nD)]
          exact s89 _ _ hb
        · by_cases c : j < i
          · obtain ⟨t, y, q1, q2, q3⟩ := sk j c
            exact ⟨t, y, by rw [List.getElem?_append_left (by omega)]; exact q1, q2, up _ _ (s9 _ _ q3)⟩
          · have ej : j = i := by omega
            subst ej
            exact ⟨T1, x, by rw [List.getElem?_append_right (by omega), hul', Nat.sub_self]; rfl, hx, up _ _ hT1⟩
      · rintro H6 ⟨us', s8, hD, hul', sk⟩
        have hkl := tgAll_len tps
        have s78 := s57.trans s8
        have hp6 := s78 _ _ hp1
        walk_at "rd"
        have hlen : us.length + us'.length ≤ sizeLine := by
          rw [sizeLine_eq]
          have : us.length < 1000 * (24 + 1) := by
            have : 1000 * (l + 1) ≤ 1000 * (24 + 1) := Nat.mul_le_mul_left _ (by omega)
            omega
          omega
        refine ⟨p, D, us, us', rfl, rfl, hp6, hD, hlen, ?_⟩
        have b3 : Btz p H6 (upd H6 p (.lst (us ++ us'))) := Btz.put _
        have nt6 := noTup_lst hp6
        have up : ∀ t xs, H6 t = some (.tup xs) → upd H6 p (.lst (us ++ us')) t = some (.tup xs) := fun t xs q => b3 t _ (fun e => nt6 _ (e ▸ q)) q
        have sk2 : Stk (upd H6 p (.lst (us ++ us'))) p 1000 us' ((kids (.tuple [.str k, .tuple ds])).map fun d => (d, l + 1)) := by
          refine ⟨by rw [List.length_map, hul', hkl], fun i d l0 hh => ?_⟩
          rw [List.getElem?_map] at hh
          cases hd : (kids (.tuple [.str k, .tuple ds]))[i]? with
          | none => rw [hd] at hh; cases hh
          | some d' =>
            rw [hd] at hh
            cases (show some (d', l + 1) = some (d, l0) from hh)
            have hi : i < ps.length := by
              rw [hkl]
              exact (List.getElem?_eq_some_iff.mp hd).1
            obtain ⟨t, y, q1, q2, q3⟩ := sk i hi
            obtain ⟨x', e1, t'⟩ := tgAll_at tps hd
            rw [q2] at e1
            cases e1
            exact ⟨t, y, q1, up _ _ q3, (t'.same s8).btz nt6 b3⟩
        have hall : alv ((kids (.tuple [.str k, .tuple ds])).map fun d => (d, l + 1)) = (kids (.tuple [.str k, .tuple ds])).all (isv (24 - (l + 1))) := by
          unfold alv
          rw [List.all_map]
          rfl
        refine ⟨szI (its ++ (kids (.tuple [.str k, .tuple ds])).map fun d => (d, l + 1)), ?_, us ++ us', its ++ (kids (.tuple [.str k, .tuple ds])).map fun d => (d, l + 1), _, _, rfl, upd_same, ((stk2.keep nt2 (Btz.of s78)).keep nt6 b3).app sk2, fun i d' l' hi => ?_, ?_, ?_, rfl⟩
        · unfold szI
          rw [List.map_append, List.map_append, szL_app, szL_app, List.map_map]
          have e : (kids (.tuple [.str k, .tuple ds])).map ((fun x : Itm => x.1) ∘ fun d => (d, l + 1)) = kids (.tuple [.str k, .tuple ds]) := List.map_id _
          rw [e]
          have := kids_sz (.tuple [.str k, .tuple ds])
          show _ < _ + (szD (.tuple [.str k, .tuple ds]) + 0)
          omega
        · by_cases c : i < its.length
          · refine lvl i d' l' ?_
            rw [List.getElem?_append_left c] at hi ⊢
            exact hi
          · rw [List.getElem?_append_right (by omega), List.getElem?_map] at hi
            have hik := (List.getElem?_eq_some_iff.mp (by rw [← List.getElem?_map] at hi; exact hi)).1
            rw [List.length_map] at hik
            cases hd : (kids (.tuple [.str k, .tuple ds]))[i - its.length]? with
            | none => rw [hd] at hi; cases hi
            | some d'' =>
              rw [hd] at hi
              cases (show some (d'', l + 1) = some (d', l') from hi)
              omega
        · intro b o hb
          rw [upd_ne (ne_of_none hb (s1.free np))]
          exact s78 _ _ (s4 _ _ hb)
        · have : alv (its ++ (kids (.tuple [.str k, .tuple ds])).map fun d => (d, l + 1)) = (alv its && alv ((kids (.tuple [.str k, .tuple ds])).map fun d => (d, l + 1))) := by
            unfold alv
            rw [List.all_append]
          rw [this, hall, ← hgo]
          exact al
end

/-! ### the law's own check -/
abbrev s__law_is_integer : Stmt := (top 26)
theorem sc__law_is_integer : FnScope ["thing"] ["thing"] (defScope s__law_is_integer) := ⟨rfl, rfl, rfl, by decide +kernel, rfl, by decide +kernel, by decide +kernel⟩
abbrev s__law_within : Stmt := (top 27)
theorem sc__law_within : FnScope ["thing", "low", "high"] ["thing", "low", "high"] (defScope s__law_within) := ⟨rfl, rfl, rfl, by decide +kernel, rfl, by decide +kernel, by decide +kernel⟩
abbrev s__law_are_points : Stmt := (top 28)
theorem sc__law_are_points : FnScope ["thing", "point"] ["thing"] (defScope s__law_are_points) := ⟨rfl, rfl, rfl, by decide +kernel, rfl, by decide +kernel, by decide +kernel⟩
abbrev s__law_is_leaf : Stmt := (top 30)
theorem sc__law_is_leaf : FnScope ["thing", "octet"] ["thing"] (defScope s__law_is_leaf) := ⟨rfl, rfl, rfl, by decide +kernel, rfl, by decide +kernel, by decide +kernel⟩
abbrev s__law_is_map : Stmt := (top 29)
theorem sc__law_is_map : FnScope ["thing", "left", "k"] ["thing", "left"] (defScope s__law_is_map) := ⟨rfl, rfl, rfl, by decide +kernel, rfl, by decide +kernel, by decide +kernel⟩
abbrev s__law_is_value : Stmt := (top 31)
theorem sc__law_is_value : FnScope ["thing", "left", "item"] ["thing", "left"] (defScope s__law_is_value) := ⟨rfl, rfl, rfl, by decide +kernel, rfl, by decide +kernel, by decide +kernel⟩
def wiB (d : PyData) (lo hi : Int) : Bool := match d with
  | .int i => decide (lo ≤ i) && decide (i ≤ hi)
  | _ => false
def mapB (l : Nat) : PyData → Bool
  | .tuple es => entsB none es && es.all fun e => isv l (entV e)
  | _ => false
theorem pnt_wi {H : Hp} {z : Addr} {n : Nat} {v : V} {d : PyData} (t : Tg H z n v d) : isPnt d = (wiB d 0 55295 || wiB d 57344 1114111) := by
  cases t with
  | int i =>
    show decide _ = (decide _ && decide _ || decide _ && decide _)
    by_cases a : 0 ≤ i ∧ i ≤ 55295
    · rw [decide_eq_true (show 0 ≤ i ∧ i ≤ 1114111 ∧ ¬ (55296 ≤ i ∧ i ≤ 57343) by omega), decide_eq_true a.1, decide_eq_true a.2]
      rfl
    · by_cases b : 57344 ≤ i ∧ i ≤ 1114111
      · rw [decide_eq_true (show 0 ≤ i ∧ i ≤ 1114111 ∧ ¬ (55296 ≤ i ∧ i ≤ 57343) by omega), decide_eq_true b.1, decide_eq_true b.2]
        simp
      · rw [decide_eq_false (show ¬ (0 ≤ i ∧ i ≤ 1114111 ∧ ¬ (55296 ≤ i ∧ i ≤ 57343)) by omega)]
        have e1 : (decide (0 ≤ i) && decide (i ≤ 55295)) = false := by
          cases q : (decide (0 ≤ i) && decide (i ≤ 55295)) with
          | false => rfl
          | true => exact absurd ⟨of_decide_eq_true (both q).1, of_decide_eq_true (both q).2⟩ a
        have e2 : (decide (57344 ≤ i) && decide (i ≤ 1114111)) = false := by
          cases q : (decide (57344 ≤ i) && decide (i ≤ 1114111)) with
          | false => rfl
          | true => exact absurd ⟨of_decide_eq_true (both q).1, of_decide_eq_true (both q).2⟩ b
        rw [e1, e2]
        rfl
  | _ => rfl
def sp__law_is_integer : Sp := sp1 fun a H Q _ => ∃ z n d, Tg H z n a d ∧ Q (.bl (isInt d)) H
def sp__law_within : Sp := sp3 fun a b c H Q _ => ∃ z n d lo hi, Tg H z n a d ∧ b = .int lo ∧ c = .int hi ∧ Q (.bl (wiB d lo hi)) H
def sp__law_are_points (K : Frg) : Sp := sp1 fun a H Q _ => ∃ z n d, Tg H z n a d ∧ Q (.bl (isTextD d)) H
def sp__law_is_leaf (K : Frg) : Sp := sp1 fun a H Q _ => ∃ z n k r, Tg H z n a (.tuple (.str k :: r)) ∧ n ≤ 1000 ∧ k ≠ "list" ∧ k ≠ "map" ∧ ∀ H', Same H H' → Q (.bl (isSnd (.tuple (.str k :: r)))) H'
def sp__law_is_map (K : Frg) (N : Nat) : Sp := sp2 fun a b H Q _ => ∃ (z : Addr) (n : Nat) (d : PyData) (l : Nat), Tg H z n a d ∧ n ≤ 1000 ∧ b = .int (l : Int) ∧ l < N ∧ ∀ H', Same H H' → Q (.bl (mapB l d)) H'
def sp__law_is_value (K : Frg) (N : Nat) : Sp := sp2 fun a b H Q _ => ∃ (z : Addr) (n : Nat) (d : PyData) (l : Nat), Tg H z n a d ∧ n ≤ 1000 ∧ b = .int (l : Int) ∧ l < N ∧ ∀ H', Same H H' → Q (.bl (isv l d)) H'
theorem no__law_is_value {K : Frg} {vs : List V} {H : Hp} {Q : VK} {E : XK} (h : sp__law_is_value K 0 vs H Q E) : False := by
  obtain ⟨_, _, rfl, _, _, _, l, _, _, _, h, _⟩ := h
  exact absurd h (Nat.not_lt_zero _)
theorem snd_no {k : Str} {r : List PyData} (h : lensB k ≠ r.length + 1) : isSnd (.tuple (.str k :: r)) = false := by
  unfold isSnd
  dsimp only
  rw [decide_eq_false h, Bool.false_and]
theorem isv_leaf {l : Nat} {d : PyData} (c : isCon d = false) : isv l d = isSnd d := by
  cases l with
  | zero =>
    show (isSnd d && !isCon d) = _
    rw [c, Bool.not_false, Bool.and_true]
  | succ l =>
    show (isSnd d && (kids d).all (isv l)) = _
    rw [kids_no c, List.all_nil, Bool.and_true]
theorem isv_bad {l : Nat} {d : PyData} (c : isSnd d = false) : isv l d = false := by
  cases l with
  | zero =>
    show (isSnd d && !isCon d) = _
    rw [c, Bool.false_and]
  | succ l =>
    show (isSnd d && (kids d).all (isv l)) = _
    rw [c, Bool.false_and]
theorem at1x {a b : V} {xs : List V} : atI (a :: b :: xs) (1 : Int) = some b := atI_nat (j := 1) rfl
theorem at2x {a b c : V} {xs : List V} : atI (a :: b :: c :: xs) (2 : Int) = some c := atI_nat (j := 2) rfl
section
variable {P : Program} {w : World} {K : PySem.W.Frag} {mg : Str → Option Value} {base : Heap} {f : Addr} {fd : FuncData}
theorem ok__law_is_integer (F : FunD K "_law_is_integer" "_law_is_integer" (defArgs s__law_is_integer) (defBody s__law_is_integer) (defScope s__law_is_integer) [] [] (glAd "_law_is_integer" K) fd) (m : mg "_law_is_integer" = some (.ref (glAd "_law_is_integer" K))) (nb : Nm w K mg) : Cal P w K mg base 1 "_law_is_integer" sp__law_is_integer [] := by
  refine calD F m sc__law_is_integer (fun _ _ _ _ _ _ us hl => match us, hl with | [_], _ => rfl) len1 (fun cdv A outer s H vs Q E hr h => ⟨_, (pss_one (ps_ret (pe_and (pe_callB call_isi (by rfl) nb.isinstance (by decide +kernel) (pa_cons (pv 0) (pa_cons (pe_bltn (v := .ty "int") (u := .type "int") (by rfl) nb.int (by decide +kernel) rfl) pa_nil))) (pe_one (pe_not (pe_callB call_isi (by rfl) nb.isinstance (by decide +kernel) (pa_cons (pv 0) (pa_cons (pe_bltn (v := .ty "bool") (u := .type "bool") (by rfl) nb.bool (by decide +kernel) rfl) pa_nil)))))))), ?_⟩)
  obtain ⟨_, rfl, z, n, d, t, h⟩ := h
  walk_at "rd"
  refine i_int t ?_
  have ti := t
  cases t <;> (walk_at "rd"; first | exact h | (refine i_bool ti ?_; walk_at "rd"; exact h))
theorem ok__law_within (F : FunD K "_law_within" "_law_within" (defArgs s__law_within) (defBody s__law_within) (defScope s__law_within) [] [] (glAd "_law_within" K) fd) (m : mg "_law_within" = some (.ref (glAd "_law_within" K))) (nb : Nm w K mg) (c__law_is_integer : Cal P w K mg base 1 "_law_is_integer" sp__law_is_integer []) : Cal P w K mg base 2 "_law_within" sp__law_within [] := by
  refine calD F m sc__law_within (fun _ _ _ _ _ _ us hl => match us, hl with | [_, _, _], _ => rfl) len3 (fun cdv A outer s H vs Q E hr h => ⟨_, (pss_one (ps_ret (pe_and (pe_c c__law_is_integer hr (by decide) rfl (pa_cons (pv 0) pa_nil)) (pe_and (pe_cmpR op_le (pv 1) (pv 0) (nomark _)) (pe_one (pe_cmpR op_le (pv 0) (pv 2) (nomark _))))))), ?_⟩)
  obtain ⟨_, _, _, rfl, z, n, d, lo, hi, t, rfl, rfl, h⟩ := h
  walk_at "rd"
  refine ⟨_, rfl, z, n, d, t, ?_⟩
  walk_at "rd"
  cases t with
  | int i =>
    rw [show isInt (.int i) = true from rfl]
    walk_at "rd"
    have e : wiB (.int i) lo hi = (decide (lo ≤ i) && decide (i ≤ hi)) := rfl
    rw [e] at h
    by_cases c : lo ≤ i
    · rw [decide_eq_true c, Bool.true_and] at h
      rw [if_pos (decide_eq_true c)]
      walk_at "rd"
      exact h
    · rw [decide_eq_false c, Bool.false_and] at h
      rw [if_neg (by rw [decide_eq_false c]; decide)]
      exact h
  | _ =>
    rw [show isInt _ = false from rfl]
    walk_at "rd"
    exact h
theorem ok__law_are_points (F : FunD K "_law_are_points" "_law_are_points" (defArgs s__law_are_points) (defBody s__law_are_points) (defScope s__law_are_points) [] [] (glAd "_law_are_points" K) fd) (m : mg "_law_are_points" = some (.ref (glAd "_law_are_points" K))) (nb : Nm w K mg) (c__law_within : Cal P w K mg base 2 "_law_within" sp__law_within []) : Cal P w K mg base 3 "_law_are_points" (sp__law_are_points K) [] := by
  refine calD F m sc__law_are_points (fun _ _ _ _ _ _ us hl => match us, hl with | [_], _ => rfl) len1 (fun cdv A outer s H vs Q E hr h => ⟨_, (pss_cons (ps_if (pt_not (pt_val (pe_callB call_isi (by rfl) nb.isinstance (by decide +kernel) (pa_cons (pv 0) (pa_cons (pe_bltn (v := .ty "tuple") (u := .type "tuple") (by rfl) nb.tuple (by decide +kernel) rfl) pa_nil)))))
    (pss_one (ps_ret pe_bl))
    pss_nil)
    (pss_cons (ps_for PassesOwn.never rfl (pi_tup (pv 0)) (pg_name (i := 1) sc__law_are_points.nd rfl (Or.inl rfl))
    (pss_one (ps_if (PW.pt (pw_and (pt_not (pt_val (pe_c c__law_within hr (by decide) rfl (pa_cons (pv 1) (pa_cons pe_int (pa_cons pe_int pa_nil)))))) (pw_and1 (pt_not (pt_val (pe_c c__law_within hr (by decide) rfl (pa_cons (pv 1) (pa_cons pe_int (pa_cons pe_int pa_nil)))))))))
    (pss_one (ps_ret pe_bl))
    pss_nil)))
    (pss_one (ps_ret pe_bl)))), ?_⟩)
  obtain ⟨_, rfl, z, n, d, t, h⟩ := h
  walk_at "rd"
  refine i_tup t ?_
  walk_at "rd"
  cases t with
  | tup ha hl r =>
    rename_i a xs ds
    rw [show isTup (.tuple ds) = true from rfl]
    walk_at "rd"
    refine ⟨a, rfl, ⟨xs, SqT.of ha⟩, r_eachT (xs := xs) (fun i σ H' => H = H' ∧ ∃ y, σ = [some (.ref a), y] ∧ (ds.take i).all isPnt = true) ⟨rfl, none, rfl, rfl⟩ (fun i σ H' q => by rw [← q.1]; exact SqT.of ha) ?_ ?_⟩
    · rintro i x σ _ hx ⟨rfl, y, rfl, al⟩
      obtain ⟨d, hd, t2⟩ := tgAll_get r hx
      have hbad : isPnt d = false → Q (.bl false) H := fun c => by
        have : isTextD (.tuple ds) = false := by
          show ds.all isPnt = false
          refine List.all_eq_false.mpr ⟨d, List.mem_of_getElem? hd, by rw [c]; decide⟩
        rw [this] at h
        exact h
      have hgood : isPnt d = true → (ds.take (i + 1)).all isPnt = true := fun c => by
        rw [take_oneD hd, List.all_append, al]
        show (true && (isPnt d && true)) = true
        rw [c]
        rfl
      rw [pnt_wi t2] at hbad hgood
      walk_at "rd"
      refine ⟨_, _, _, rfl, z, n, d, 0, 55295, t2, rfl, rfl, ?_⟩
      walk_at "rd"
      cases c1 : wiB d 0 55295 with
      | true =>
        rw [c1] at hgood
        walk_at "rd"
        exact ⟨rfl, _, rfl, hgood rfl⟩
      | false =>
        rw [c1] at hgood hbad
        walk_at "rd"
        refine ⟨_, _, _, rfl, z, n, d, 57344, 1114111, t2, rfl, rfl, ?_⟩
        walk_at "rd"
        cases c2 : wiB d 57344 1114111 with
        | true =>
          rw [c2] at hgood
          walk_at "rd"
          exact ⟨rfl, _, rfl, hgood rfl⟩
        | false =>
          rw [c2] at hbad
          walk_at "rd"
          exact hbad rfl
    · rintro σ _ ⟨rfl, y, rfl, al⟩
      walk_at "rd"
      rw [tgAll_len r, List.take_length] at al
      rw [show isTextD (.tuple ds) = true from al] at h
      exact h
  | _ =>
    rw [show isTup _ = false from rfl]
    walk_at "rd"
    exact h
theorem ok__law_is_leaf (F : FunD K "_law_is_leaf" "_law_is_leaf" (defArgs s__law_is_leaf) (defBody s__law_is_leaf) (defScope s__law_is_leaf) [] [] (glAd "_law_is_leaf" K) fd) (m : mg "_law_is_leaf" = some (.ref (glAd "_law_is_leaf" K))) (nb : Nm w K mg) (c__law_is_integer : Cal P w K mg base 1 "_law_is_integer" sp__law_is_integer []) (c__law_within : Cal P w K mg base 2 "_law_within" sp__law_within []) (c__law_are_points : Cal P w K mg base 3 "_law_are_points" (sp__law_are_points K) []) : Cal P w K mg base 4 "_law_is_leaf" (sp__law_is_leaf K) [] := by
  refine calD F m sc__law_is_leaf (fun _ _ _ _ _ _ us hl => match us, hl with | [_], _ => rfl) len1 (fun cdv A outer s H vs Q E hr h => ⟨_, (pss_cons (ps_if (pt_cmpR op_eq (pe_ix ix_tup (pv 0) pe_int (fun _ _ => rfl)) pe_str (nomark _))
    (pss_one (ps_ret (pe_cmpR op_eq (pe_callB call_len_seq (by rfl) nb.len PySem.boot_len (pa_cons (pv 0) pa_nil)) pe_int (nomark _))))
    pss_nil)
    (pss_cut (ps_if (PW.pt (pw_and (pt_cmpR op_eq (pe_ix ix_tup (pv 0) pe_int (fun _ _ => rfl)) pe_str (nomark _)) (pw_and (pt_cmpR op_eq (pe_callB call_len_seq (by rfl) nb.len PySem.boot_len (pa_cons (pv 0) pa_nil)) pe_int (nomark _)) (pw_and (pt_val (pe_c c__law_is_integer hr (by decide) rfl (pa_cons (pe_ix ix_tup (pv 0) pe_int (fun _ _ => rfl)) pa_nil))) (pw_and1 (pt_val (pe_c c__law_is_integer hr (by decide) rfl (pa_cons (pe_ix ix_tup (pv 0) pe_int (fun _ _ => rfl)) pa_nil))))))))
    (pss_one (ps_ret (pe_or (pe_cmpR op_ne (pe_op op_mod (pe_ix ix_tup (pv 0) pe_int (fun _ _ => rfl)) pe_int) pe_int (nomark _)) (pe_one (pe_and (pe_cmpR op_eq (pe_ix ix_tup (pv 0) pe_int (fun _ _ => rfl)) pe_int (nomark _)) (pe_one (pe_cmpR op_eq (pe_ix ix_tup (pv 0) pe_int (fun _ _ => rfl)) pe_int (nomark _))))))))
    pss_nil)
    (pss_cons (ps_if (pt_cmpR op_ne (pe_callB call_len_seq (by rfl) nb.len PySem.boot_len (pa_cons (pv 0) pa_nil)) pe_int (nomark _))
    (pss_one (ps_ret pe_bl))
    pss_nil)
    (pss_cut (ps_if (PW.pt (pw_and (pt_cmpR op_eq (pe_ix ix_tup (pv 0) pe_int (fun _ _ => rfl)) pe_str (nomark _)) (pw_and1 (pt_val (pe_callB call_isi (by rfl) nb.isinstance (by decide +kernel) (pa_cons (pe_ix ix_tup (pv 0) pe_int (fun _ _ => rfl)) (pa_cons (pe_bltn (v := .ty "tuple") (u := .type "tuple") (by rfl) nb.tuple (by decide +kernel) rfl) pa_nil)))))))
    (pss_one (ps_ret (pe_cmpR op_eq (pe_callB call_len_seq (by rfl) nb.len PySem.boot_len (pa_cons (pe_lc (own := [("octet", 1)]) (g := gName 1) rfl sc__law_is_leaf.nd (pi_tup (pe_ix ix_tup (pv 0) pe_int (fun _ _ => rfl))) (blkOk_by (N := ["thing", "octet"]) (sc := defScope s__law_is_leaf) (by decide +kernel)) (fun _ _ _ _ _ => pg_name (i := 1) sc__law_is_leaf.nd rfl (Or.inl rfl)) (fun _ _ _ _ _ => (pts_one (pt_not (pt_val (pe_c c__law_within hr (by decide) rfl (pa_cons (pv 1) (pa_cons pe_int (pa_cons pe_int pa_nil)))))))) (fun _ _ _ _ _ => (pv 1))) pa_nil)) pe_int (nomark _))))
    pss_nil)
    (pss_one (ps_ret (pe_or (pe_and (pe_cmpR op_eq (pe_ix ix_tup (pv 0) pe_int (fun _ _ => rfl)) pe_str (nomark _)) (pe_one (pe_callB call_isi (by rfl) nb.isinstance (by decide +kernel) (pa_cons (pe_ix ix_tup (pv 0) pe_int (fun _ _ => rfl)) (pa_cons (pe_bltn (v := .ty "bool") (u := .type "bool") (by rfl) nb.bool (by decide +kernel) rfl) pa_nil))))) (pe_one (pe_and (pe_cmpR op_eq (pe_ix ix_tup (pv 0) pe_int (fun _ _ => rfl)) pe_str (nomark _)) (pe_one (pe_c c__law_are_points hr (by decide) rfl (pa_cons (pe_ix ix_tup (pv 0) pe_int (fun _ _ => rfl)) pa_nil)))))))))))), ?_⟩)
  obtain ⟨_, rfl, z, n, k, r, t, hn, kl, km, h⟩ := h
  obtain ⟨a, xs, rfl, ha, hl, rx⟩ := tg_tup t
  have hxl := tgAll_len rx
  cases rx with
  | cons r1 rx =>
  cases r1
  rename_i us hk
  rw [List.length_cons, List.length_cons] at hxl
  have no : lensB k ≠ r.length + 1 → Q (.bl false) H := fun q => by
    rw [snd_no q] at h
    exact h H (Same.refl H)
  walk_at "rd"
  refine r_ixT (SqT.of ha) at0' ?_
  walk_at "rd"
  refine r_ite (fun c => ?_) (fun c => ?_)
  · subst c
    walk_at "rd"
    refine ⟨_, _, rfl, .inr (SqT.of ha), ?_⟩
    walk_at "rd"
    have e1 : lensB "null" = 1 := rfl
    by_cases q : r = []
    · subst q
      rw [decide_eq_true (by rw [List.length_cons]; simp at hxl; rw [hxl]; rfl)]
      exact h H (Same.refl H)
    · have : r.length ≠ 0 := fun z => q (List.length_eq_zero_iff.mp z)
      rw [decide_eq_false (by rw [List.length_cons]; omega)]
      exact no (by omega)
  have nn : k = "number" → lensB k = 3 := fun q => by rw [q]; rfl
  refine r_cut (fun σ H' => H = H' ∧ σ = [some (.ref a), none] ∧ (k = "number" → Q (.bl false) H)) ?_ ?_
  · walk_at "rd"
    refine r_ixT (SqT.of ha) at0' ?_
    walk_at "rd"
    refine r_ite (fun c1 => ?_) (fun c1 => ?_)
    · have hl3 := nn c1
      walk_at "rd"
      refine ⟨_, _, rfl, .inr (SqT.of ha), ?_⟩
      walk_at "rd"
      refine r_ite (fun c2 => ?_) (fun c2 => ?_)
      · have hr2 : r.length = 2 := by
          rw [List.length_cons] at c2
          omega
        obtain ⟨d1, d2, rfl⟩ : ∃ d1 d2, r = [d1, d2] := by
          match r, hr2 with
          | [d1, d2], _ => exact ⟨d1, d2, rfl⟩
        cases rx with
        | cons r1 rx =>
        cases rx with
        | cons r2 rx =>
        cases rx
        have es : isSnd (.tuple [.str k, d1, d2]) = isNum d1 d2 := by
          unfold isSnd
          dsimp only
          rw [hl3]
          rfl
        rw [es] at h
        walk_at "rd"
        refine r_ixT (SqT.of ha) at1x ?_
        walk_at "rd"
        refine ⟨_, rfl, z, n, d1, r1, ?_⟩
        walk_at "rd"
        rcases no_int r1 with ⟨i, e1, e2, e3⟩ | ⟨e3, _, _⟩
        · subst e1 e2
          rw [e3]
          walk_at "rd"
          refine r_ixT (SqT.of ha) at2x ?_
          walk_at "rd"
          refine ⟨_, rfl, z, n, d2, r2, ?_⟩
          walk_at "rd"
          rcases no_int r2 with ⟨j, f1, f2, f3⟩ | ⟨f3, _, _⟩
          · subst f1 f2
            rw [f3]
            have en : isNum (.int i) (.int j) = decide (i % 10 ≠ 0 ∨ (i = 0 ∧ j = 0)) := rfl
            rw [en] at h
            have hh := h H (Same.refl H)
            walk_at "rd"
            refine r_ixT (SqT.of ha) at1x ?_
            walk_at "rd"
            refine r_iten (fun c3 => ?_) (fun c3 => ?_)
            · rw [decide_eq_true (show i % 10 ≠ 0 ∨ _ from .inl c3)] at hh
              exact hh
            · walk_at "rd"
              refine r_ixT (SqT.of ha) at1x ?_
              walk_at "rd"
              refine r_ite (fun c4 => ?_) (fun c4 => ?_)
              · walk_at "rd"
                refine r_ixT (SqT.of ha) at2x ?_
                walk_at "rd"
                have : decide (i % 10 ≠ 0 ∨ (i = 0 ∧ j = 0)) = decide (j = 0) := decide_eq_decide.mpr ⟨fun q => q.elim (fun z => absurd c3 z) fun z => z.2, fun q => .inr ⟨c4, q⟩⟩
                rw [this] at hh
                exact hh
              · have : decide (i % 10 ≠ 0 ∨ (i = 0 ∧ j = 0)) = false := decide_eq_false fun q => q.elim (fun z => z c3) fun z => c4 z.1
                rw [this] at hh
                exact hh
          · rw [f3]
            walk_at "rd"
            refine ⟨rfl, rfl, fun _ => ?_⟩
            have : isNum (.int i) d2 = false := by
              cases d2 <;> first | rfl | cases f3
            rw [this] at h
            exact h H (Same.refl H)
        · rw [e3]
          walk_at "rd"
          refine ⟨rfl, rfl, fun _ => ?_⟩
          have : isNum d1 d2 = false := by
            cases d1 <;> first | rfl | cases e3
          rw [this] at h
          exact h H (Same.refl H)
      · walk_at "rd"
        refine ⟨rfl, rfl, fun _ => no ?_⟩
        rw [List.length_cons] at c2
        omega
    · walk_at "rd"
      exact ⟨rfl, rfl, fun q => absurd q c1⟩
  rintro σ _ ⟨rfl, rfl, hnum⟩
  walk_at "rd"
  refine ⟨_, _, rfl, .inr (SqT.of ha), ?_⟩
  walk_at "rd"
  refine r_iten (fun c1 => ?_) (fun c1 => ?_)
  · walk_at "rd"
    by_cases c2 : k = "number"
    · exact hnum c2
    refine no fun q => ?_
    rw [List.length_cons] at c1
    unfold lensB at q
    rw [if_neg c, if_neg c2, if_neg kl, if_neg km] at q
    by_cases q2 : k = "truth"
    · rw [if_pos q2] at q; omega
    rw [if_neg q2] at q
    by_cases q4 : k = "bytes"
    · rw [if_pos q4] at q; omega
    rw [if_neg q4] at q
    by_cases q5 : k = "text"
    · rw [if_pos q5] at q; omega
    rw [if_neg q5] at q
    omega
  have hr1 : r.length = 1 := by
    rw [List.length_cons] at c1
    omega
  obtain ⟨d1, rfl⟩ : ∃ d1, r = [d1] := by
    match r, hr1 with
    | [d1], _ => exact ⟨d1, rfl⟩
  cases rx with
  | cons r1 rx =>
  cases rx
  have es : isSnd (.tuple [.str k, d1]) = (decide (lensB k = 2) && fitsB k d1) := rfl
  refine r_cut (fun σ H' => H = H' ∧ σ = [some (.ref a), none] ∧ (k = "bytes" → Q (.bl false) H)) ?_ ?_
  · walk_at "rd"
    refine r_ixT (SqT.of ha) at0' ?_
    walk_at "rd"
    refine r_ite (fun c2 => ?_) (fun c2 => ?_)
    · subst c2
      have e2 : isSnd (.tuple [.str "bytes", d1]) = fitsB "bytes" d1 := by rw [es]; exact Bool.true_and _
      rw [e2] at h
      walk_at "rd"
      refine r_ixT (SqT.of ha) at1x ?_
      walk_at "rd"
      refine i_tup r1 ?_
      walk_at "rd"
      cases r1 with
      | tup hb hl2 rb =>
        rename_i b bs ds
        rw [show isTup (.tuple ds) = true from rfl]
        walk_at "rd"
        refine r_ixT (SqT.of ha) at1x ?_
        refine ⟨b, rfl, ⟨bs, SqT.of hb⟩, fun D nD => ?_⟩
        have ef : fitsB "bytes" (.tuple ds) = ds.all isOct := rfl
        rw [ef] at h
        refine lc_tup (xs := bs) (fun i H' => ∃ acc : List V, Same H H' ∧ H' D = some (.lst acc) ∧ acc.length ≤ i ∧ (acc.length = 0 ↔ (ds.take i).all isOct = true)) ⟨[], same_upd nD _, upd_same, Nat.le_refl _, ⟨fun _ => rfl, fun _ => rfl⟩⟩ (fun i H' _ q => by obtain ⟨_, q1, _⟩ := q; exact SqT.of (q1 _ _ hb)) ?_ ?_
        · rintro i x H1 hx ⟨acc, s1, hD, hle, hiff⟩
          obtain ⟨d, hd, t2⟩ := tgAll_get rb hx
          have hi : i < bs.length := (List.getElem?_eq_some_iff.mp hx).1
          have eo : isOct d = wiB d 0 255 := by
            cases t2 with
            | int i =>
              show decide _ = (decide _ && decide _)
              by_cases a : 0 ≤ i
              · rw [decide_eq_true a, Bool.true_and]
                exact decide_eq_decide.mpr ⟨fun q => q.2, fun q => ⟨a, q⟩⟩
              · rw [decide_eq_false a, Bool.false_and]
                exact decide_eq_false fun q => a q.1
            | _ => rfl
          have et : (ds.take (i + 1)).all isOct = ((ds.take i).all isOct && wiB d 0 255) := by
            rw [take_oneD hd, List.all_append, ← eo]
            simp
          walk_at "rd"
          refine ⟨rfl, ?_⟩
          walk_at "rd"
          refine ⟨_, _, _, rfl, z, n, d, 0, 255, t2.same s1, rfl, rfl, ?_⟩
          walk_at "rd"
          cases c3 : wiB d 0 255 with
          | true =>
            rw [c3, Bool.and_true] at et
            walk_at "rd"
            exact ⟨acc, s1, hD, Nat.le_succ_of_le hle, by rw [et]; exact hiff⟩
          | false =>
            rw [c3, Bool.and_false] at et
            walk_at "rd"
            refine ⟨acc, hD, small4k (by omega), acc ++ [x], ?_, upd_same, by rw [List.length_append]; exact Nat.succ_le_succ hle, ?_⟩
            · intro b o hb
              rw [upd_ne (ne_of_none hb nD)]
              exact s1 _ _ hb
            · rw [et, List.length_append]
              exact ⟨fun q => by simp at q, fun q => by cases q⟩
        · rintro H1 ⟨acc, s1, hD, hle, hiff⟩
          rw [tgAll_len rb, List.take_length] at hiff
          walk_at "rd"
          refine ⟨D, acc, rfl, .inl (SqL.of hD), ?_⟩
          walk_at "rd"
          have hh := h H1 s1
          have : decide ((acc.length : Int) = 0) = ds.all isOct := by
            cases q : ds.all isOct with
            | true => exact decide_eq_true (by have := hiff.mpr q; omega)
            | false =>
              refine decide_eq_false fun z => ?_
              have := hiff.mp (by omega)
              rw [q] at this
              cases this
          rw [this]
          exact hh
      | _ =>
        rw [show isTup _ = false from rfl]
        walk_at "rd"
        exact ⟨rfl, rfl, fun _ => h H (Same.refl H)⟩
    · walk_at "rd"
      exact ⟨rfl, rfl, fun q => absurd q c2⟩
  rintro σ _ ⟨rfl, rfl, hbyt⟩
  walk_at "rd"
  refine r_ixT (SqT.of ha) at0' ?_
  walk_at "rd"
  rw [es] at h
  have h0 := h H (Same.refl H)
  refine r_ite (fun c2 => ?_) (fun c2 => ?_)
  · subst c2
    have e3 : (decide (lensB "truth" = 2) && fitsB "truth" d1) = isBol d1 := Bool.true_and _
    rw [e3] at h0
    walk_at "rd"
    refine r_ixT (SqT.of ha) at1x ?_
    walk_at "rd"
    refine i_bool r1 ?_
    walk_at "rd"
    cases q : isBol d1 with
    | true =>
      rw [q] at h0
      walk_at "rd"
      exact h0
    | false =>
      rw [q] at h0
      walk_at "rd"
      refine r_ixT (SqT.of ha) at0' ?_
      walk_at "rd"
      refine r_iteN (by decide) ?_
      exact h0
  · walk_at "rd"
    refine r_ixT (SqT.of ha) at0' ?_
    walk_at "rd"
    refine r_ite (fun c4 => ?_) (fun c4 => ?_)
    · subst c4
      have e3 : (decide (lensB "text" = 2) && fitsB "text" d1) = isTextD d1 := by
        refine (Bool.true_and _).trans ?_
        cases d1 <;> rfl
      rw [e3] at h0
      walk_at "rd"
      refine r_ixT (SqT.of ha) at1x ?_
      exact ⟨_, rfl, z, n, d1, r1, h0⟩
    · have e3 : (decide (lensB k = 2) && fitsB k d1) = false ∨ k = "bytes" ∨ k = "number" := by
        by_cases q4 : k = "bytes"
        · exact .inr (.inl q4)
        by_cases q5 : k = "number"
        · exact .inr (.inr q5)
        refine .inl ?_
        unfold lensB
        rw [if_neg c, if_neg c2, if_neg q5, if_neg q4, if_neg c4, if_neg kl, if_neg km]
        rfl
      rcases e3 with q | q | q
      · rw [q] at h0
        exact h0
      · exact hbyt q
      · exact hnum q
end

/-! ### the law's own check: maps and values call each other -/
section
variable {P : Program} {w : World} {K : PySem.W.Frag} {mg : Str → Option Value} {base : Heap} {f : Addr} {fd fd2 : FuncData}
theorem snd_tup {d : PyData} (h : isTup d = false) : isSnd d = false := by
  cases d <;> first | rfl | cases h
theorem ok__law_is_map (n : Nat) (F : FunD K "_law_is_map" "_law_is_map" (defArgs s__law_is_map) (defBody s__law_is_map) (defScope s__law_is_map) [] [] (glAd "_law_is_map" K) fd) (m : mg "_law_is_map" = some (.ref (glAd "_law_is_map" K))) (nb : Nm w K mg)
    (c__law_are_points : Cal P w K mg base 3 "_law_are_points" (sp__law_are_points K) []) (c__law_is_value : Cal P w K mg base (10 + 2 * n) "_law_is_value" (sp__law_is_value K n) []) : Cal P w K mg base (10 + 2 * n + 1) "_law_is_map" (sp__law_is_map K n) [] := by
  refine calD F m sc__law_is_map (fun _ _ _ _ _ _ us hl => match us, hl with | [_, _], _ => rfl) len2 (fun cdv A outer s H vs Q E hr h => ⟨_, (pss_cons (ps_if (pt_not (pt_val (pe_callB call_isi (by rfl) nb.isinstance (by decide +kernel) (pa_cons (pv 0) (pa_cons (pe_bltn (v := .ty "tuple") (u := .type "tuple") (by rfl) nb.tuple (by decide +kernel) rfl) pa_nil)))))
    (pss_one (ps_ret pe_bl))
    pss_nil)
    (pss_cons (ps_for PassesOwn.never rfl (pi_range1 rfl nb.range (pa_cons (pe_callB call_len_seq (by rfl) nb.len PySem.boot_len (pa_cons (pv 0) pa_nil)) pa_nil)) (pg_name (i := 2) sc__law_is_map.nd rfl (Or.inl rfl))
    (pss_cons (ps_if (PW.pt (pw_or (pt_not (pt_val (pe_callB call_isi (by rfl) nb.isinstance (by decide +kernel) (pa_cons (pe_ix ix_tup (pv 0) (pv 2) (fun _ _ => rfl)) (pa_cons (pe_bltn (v := .ty "tuple") (u := .type "tuple") (by rfl) nb.tuple (by decide +kernel) rfl) pa_nil))))) (pw_or (pt_cmpR op_ne (pe_callB call_len_seq (by rfl) nb.len PySem.boot_len (pa_cons (pe_ix ix_tup (pv 0) (pv 2) (fun _ _ => rfl)) pa_nil)) pe_int (nomark _)) (pw_or1 (pt_not (pt_val (pe_c c__law_are_points hr (by omega) rfl (pa_cons (pe_ix ix_tup (pe_ix ix_tup (pv 0) (pv 2) (fun _ _ => rfl)) pe_int (fun _ _ => rfl)) pa_nil))))))))
    (pss_one (ps_ret pe_bl))
    pss_nil)
    (pss_one (ps_if (PW.pt (pw_or (pt_not (pt_val (pe_c c__law_is_value hr (by omega) rfl (pa_cons (pe_ix ix_tup (pe_ix ix_tup (pv 0) (pv 2) (fun _ _ => rfl)) pe_int (fun _ _ => rfl)) (pa_cons (pv 1) pa_nil))))) (pw_or1 (PW.pt (pw_and (pt_cmpR op_gt (pv 2) pe_int (nomark _)) (pw_and1 (pt_not (pt_cmpR (op_ltT (Nat.lt_of_succ_lt (hu_of hr))) (pe_ix ix_tup (pe_ix ix_tup (pv 0) (pe_op op_sub (pv 2) pe_int) (fun _ _ => rfl)) pe_int (fun _ _ => rfl)) (pe_ix ix_tup (pe_ix ix_tup (pv 0) (pv 2) (fun _ _ => rfl)) pe_int (fun _ _ => rfl)) (nomark _)))))))))
    (pss_one (ps_ret pe_bl))
    pss_nil))))
    (pss_one (ps_ret pe_bl)))), ?_⟩)
  obtain ⟨_, _, rfl, z, N, d, l, t, hn, rfl, hln, h⟩ := h
  walk_at "rd"
  refine i_tup t ?_
  walk_at "rd"
  cases t with
  | tup ha hl r =>
    rename_i a xs es
    rw [show isTup (.tuple es) = true from rfl]
    have hxl := tgAll_len r
    walk_at "rd"
    refine ⟨_, xs, rfl, .inr (SqT.of ha), ?_⟩
    walk_at "rd"
    refine r_turns (by omega) (by omega) (fun i σ H' => ∃ (y : Option V) (lo : Option (List Int)), Same H H' ∧ σ = [some (.ref a), some (.int (l : Int)), y] ∧ mapB l (.tuple es) = (entsB lo (es.drop i) && (es.drop i).all fun e => isv l (entV e)) ∧ (i = 0 → lo = none) ∧ (0 < i → ∃ (p : Addr) (q : Addr) (v : V) (ns : List Int), xs[i - 1]? = some (.ref p) ∧ H' p = some (.tup [.ref q, v]) ∧ H' q = some (.tup (ns.map V.int)) ∧ lo = some ns)) ⟨none, none, Same.refl H, rfl, rfl, fun _ => rfl, fun q => absurd q (Nat.lt_irrefl _)⟩ ?_ ?_
    · rintro i σ H1 hi ⟨y, lo, s1, rfl, e, hlo0, hlo⟩
      have hix : i < xs.length := by omega
      have hie : i < es.length := by omega
      have hx : xs[i]? = some xs[i] := List.getElem?_eq_getElem hix
      obtain ⟨d, hd, t2⟩ := tgAll_get r hx
      have ed : es.drop i = d :: es.drop (i + 1) := by
        rw [List.drop_eq_getElem_cons hie]
        congr 1
        rw [List.getElem?_eq_getElem hie] at hd
        exact Option.some.inj hd
      rw [ed] at e
      have e2 : (entsB lo (d :: es.drop (i + 1)) && (d :: es.drop (i + 1)).all fun e => isv l (entV e)) = ((ent1 d && (ordB lo (keyOf d) && entsB (some (keyOf d)) (es.drop (i + 1)))) && (isv l (entV d) && (es.drop (i + 1)).all fun e => isv l (entV e))) := rfl
      rw [e2] at e
      clear e2
      generalize xs[i] = x at hx t2
      have t3 := t2.same s1
      have bad1 : ∀ H', Same H H' → ent1 d = false → Q (.bl false) H' := fun H' s c => by
        rw [c, Bool.false_and, Bool.false_and] at e
        rw [e] at h
        exact h H' s
      have hxi : atI xs (i : Int) = some x := atI_nat hx
      walk_at "rd"
      refine r_ixT (SqT.of (s1 _ _ ha)) hxi ?_
      walk_at "rd"
      refine i_tup t3 ?_
      walk_at "rd"
      cases t3 with
      | tup he hle re =>
        rename_i b us ds
        rw [show isTup (.tuple ds) = true from rfl]
        walk_at "rd"
        refine r_ixT (SqT.of (s1 _ _ ha)) hxi ?_
        walk_at "rd"
        refine ⟨_, us, rfl, .inr (SqT.of he), ?_⟩
        walk_at "rd"
        refine r_iten (fun c => ?_) (fun c => ?_)
        · walk_at "rd"
          refine bad1 H1 s1 ?_
          have : us.length ≠ 2 := by omega
          have hel := tgAll_len re
          unfold ent1
          split
          · rename_i q
            cases q
            exact absurd hel this
          · rfl
        obtain ⟨u1, u2, rfl⟩ : ∃ u1 u2, us = [u1, u2] := by
          match us, c with
          | [a, b], _ => exact ⟨a, b, rfl⟩
        cases re with
        | cons q1 re =>
        cases re with
        | cons q2 re =>
        cases re
        rename_i d1 d2
        walk_at "rd"
        refine r_ixT (SqT.of (s1 _ _ ha)) hxi ?_
        walk_at "rd"
        refine r_ixT (SqT.of he) at0' ?_
        walk_at "rd"
        refine ⟨_, rfl, z, N, d1, q1, ?_⟩
        walk_at "rd"
        have ee : ent1 (.tuple [d1, d2]) = isTextD d1 := rfl
        have ev : entV (.tuple [d1, d2]) = d2 := rfl
        rw [ee] at e bad1
        rw [ev] at e
        cases c1 : isTextD d1 with
        | false =>
          walk_at "rd"
          exact bad1 H1 s1 c1
        | true =>
          rw [c1, Bool.true_and] at e
          obtain ⟨ns, rfl⟩ := text_is c1
          obtain ⟨kq, kxs, rfl, hkq, _, rk⟩ := tg_tup q1
          have := tg_intsB rk
          subst this
          have ek : keyOf (.tuple [.tuple (ns.map PyData.int), d2]) = ns := intD_ints ns
          rw [ek] at e
          walk_at "rd"
          refine r_ixT (SqT.of (s1 _ _ ha)) hxi ?_
          walk_at "rd"
          refine r_ixT (SqT.of he) at1' ?_
          walk_at "rd"
          refine ⟨_, _, rfl, z, N, d2, l, q2, hn, rfl, hln, fun H2 s2 => ?_⟩
          walk_at "rd"
          have s12 := s1.trans s2
          cases c2 : isv l d2 with
          | false =>
            rw [c2, Bool.false_and, Bool.and_false] at e
            rw [e] at h
            walk_at "rd"
            exact h H2 s12
          | true =>
            rw [c2, Bool.true_and] at e
            have step : ordB lo ns = true → ∃ (y : Option V) (lo : Option (List Int)), Same H H2 ∧ [some (V.ref a), some (V.int (l : Int)), some (V.int (i : Int))] = [some (V.ref a), some (V.int (l : Int)), y] ∧ mapB l (.tuple es) = (entsB lo (es.drop (i + 1)) && (es.drop (i + 1)).all fun e => isv l (entV e)) ∧ (i + 1 = 0 → lo = none) ∧ (0 < i + 1 → ∃ (p : Addr) (q : Addr) (v : V) (ns : List Int), xs[i + 1 - 1]? = some (.ref p) ∧ H2 p = some (.tup [.ref q, v]) ∧ H2 q = some (.tup (ns.map V.int)) ∧ lo = some ns) := fun o => by
              rw [o, Bool.true_and] at e
              exact ⟨_, some ns, s12, rfl, e, fun q => by omega, fun _ => ⟨b, kq, u2, ns, hx, s2 _ _ he, s2 _ _ hkq, rfl⟩⟩
            walk_at "rd"
            refine r_ite (fun c3 => ?_) (fun c3 => ?_)
            · have hi0 : 0 < i := by omega
              obtain ⟨p, q, v, ms, g1, g2, g3, g4⟩ := hlo hi0
              subst g4
              walk_at "rd"
              have hi1 : (i : Int) - 1 = ((i - 1 : Nat) : Int) := by omega
              rw [hi1]
              refine r_ixT (SqT.of (s12 _ _ ha)) (atI_nat g1) ?_
              walk_at "rd"
              refine r_ixT (SqT.of (s2 _ _ g2)) at0' ?_
              walk_at "rd"
              refine r_ixT (SqT.of (s12 _ _ ha)) hxi ?_
              walk_at "rd"
              refine r_ixT (SqT.of (s2 _ _ he)) at0' ?_
              walk_at "rd"
              refine ⟨q, kq, ms, ns, rfl, rfl, SqT.of (s2 _ _ g3), SqT.of (s2 _ _ hkq), ?_⟩
              walk_at "rd"
              have eo : ordB (some ms) ns = HT.lexLt ms ns := rfl
              cases c4 : HT.lexLt ms ns with
              | false =>
                rw [eo, c4, Bool.false_and, Bool.false_and] at e
                rw [e] at h
                walk_at "rd"
                exact h H2 s12
              | true =>
                walk_at "rd"
                exact step (eo.trans c4)
            · have hi0 : i = 0 := by omega
              have g := hlo0 hi0
              subst g
              walk_at "rd"
              exact step rfl
      | _ =>
        rw [show isTup _ = false from rfl]
        walk_at "rd"
        exact bad1 H1 s1 rfl
    · rintro σ H1 ⟨y, lo, s1, rfl, e, hlo0, hlo⟩
      walk_at "rd"
      have e1 : ((xs.length : Int)).toNat = es.length := by omega
      rw [e1, List.drop_length] at e
      have : mapB l (.tuple es) = true := e
      rw [this] at h
      exact h H1 s1
  | _ =>
    rw [show isTup _ = false from rfl]
    walk_at "rd"
    exact h H (Same.refl H)
theorem isv_con {l : Nat} {d : PyData} (c : isCon d = true) : isv (l + 1) d = (isSnd d && (kids d).all (isv l)) := rfl
theorem ok__law_is_value (n : Nat) (F : FunD K "_law_is_value" "_law_is_value" (defArgs s__law_is_value) (defBody s__law_is_value) (defScope s__law_is_value) [] [] (glAd "_law_is_value" K) fd) (m : mg "_law_is_value" = some (.ref (glAd "_law_is_value" K))) (nb : Nm w K mg)
    (c__law_is_leaf : Cal P w K mg base 4 "_law_is_leaf" (sp__law_is_leaf K) []) (c__law_is_map : Cal P w K mg base (10 + 2 * n + 1) "_law_is_map" (sp__law_is_map K n) []) (c__law_is_value : Cal P w K mg base (10 + 2 * n) "_law_is_value" (sp__law_is_value K n) []) : Cal P w K mg base (10 + 2 * (n + 1)) "_law_is_value" (sp__law_is_value K (n + 1)) [] := by
  refine calD (k := 10 + 2 * n + 1) F m sc__law_is_value (fun _ _ _ _ _ _ us hl => match us, hl with | [_, _], _ => rfl) len2 (fun cdv A outer s H vs Q E hr h => ⟨_, (pss_cons (ps_if (PW.pt (pw_or (pt_not (pt_val (pe_callB call_isi (by rfl) nb.isinstance (by decide +kernel) (pa_cons (pv 0) (pa_cons (pe_bltn (v := .ty "tuple") (u := .type "tuple") (by rfl) nb.tuple (by decide +kernel) rfl) pa_nil))))) (pw_or (pt_cmpR op_eq (pe_callB call_len_seq (by rfl) nb.len PySem.boot_len (pa_cons (pv 0) pa_nil)) pe_int (nomark _)) (pw_or1 (pt_not (pt_val (pe_callB call_isi (by rfl) nb.isinstance (by decide +kernel) (pa_cons (pe_ix ix_tup (pv 0) pe_int (fun _ _ => rfl)) (pa_cons (pe_bltn (v := .ty "str") (u := .type "str") (by rfl) nb.str (by decide +kernel) rfl) pa_nil)))))))))
    (pss_one (ps_ret pe_bl))
    pss_nil)
    (pss_cons (ps_if (PW.pt (pw_and (pt_cmpR op_ne (pe_ix ix_tup (pv 0) pe_int (fun _ _ => rfl)) pe_str (nomark _)) (pw_and1 (pt_cmpR op_ne (pe_ix ix_tup (pv 0) pe_int (fun _ _ => rfl)) pe_str (nomark _)))))
    (pss_one (ps_ret (pe_c c__law_is_leaf hr (by omega) rfl (pa_cons (pv 0) pa_nil))))
    pss_nil)
    (pss_cons (ps_if (PW.pt (pw_or (pt_cmpR op_ne (pe_callB call_len_seq (by rfl) nb.len PySem.boot_len (pa_cons (pv 0) pa_nil)) pe_int (nomark _)) (pw_or (pt_cmpR op_eq (pv 1) pe_int (nomark _)) (pw_or1 (pt_not (pt_val (pe_callB call_isi (by rfl) nb.isinstance (by decide +kernel) (pa_cons (pe_ix ix_tup (pv 0) pe_int (fun _ _ => rfl)) (pa_cons (pe_bltn (v := .ty "tuple") (u := .type "tuple") (by rfl) nb.tuple (by decide +kernel) rfl) pa_nil)))))))))
    (pss_one (ps_ret pe_bl))
    pss_nil)
    (pss_cons (ps_if (pt_cmpR op_eq (pe_ix ix_tup (pv 0) pe_int (fun _ _ => rfl)) pe_str (nomark _))
    (pss_one (ps_ret (pe_c c__law_is_map hr (by omega) rfl (pa_cons (pe_ix ix_tup (pv 0) pe_int (fun _ _ => rfl)) (pa_cons (pe_op op_sub (pv 1) pe_int) pa_nil)))))
    pss_nil)
    (pss_one (ps_ret (pe_cmpR op_eq (pe_callB call_len_seq (by rfl) nb.len PySem.boot_len (pa_cons (pe_lc (own := [("item", 2)]) (g := gName 2) rfl sc__law_is_value.nd (pi_tup (pe_ix ix_tup (pv 0) pe_int (fun _ _ => rfl))) (blkOk_by (N := ["thing", "left", "item"]) (sc := defScope s__law_is_value) (by decide +kernel)) (fun _ _ _ _ _ => pg_name (i := 2) sc__law_is_value.nd rfl (Or.inl rfl)) (fun _ _ _ _ _ => (pts_one (pt_not (pt_val (pe_c c__law_is_value hr (by omega) rfl (pa_cons (pv 2) (pa_cons (pe_op op_sub (pv 1) pe_int) pa_nil))))))) (fun _ _ _ _ _ => (pv 2))) pa_nil)) pe_int (nomark _)))))))), ?_⟩)
  obtain ⟨_, _, rfl, z, N, d, l, t, hn, rfl, hln, h⟩ := h
  have bad : isSnd d = false → Q (.bl false) H := fun q => by
    rw [isv_bad q] at h
    exact h H (Same.refl H)
  walk_at "rd"
  refine i_tup t ?_
  walk_at "rd"
  have t0 := t
  cases t with
  | tup ha hl r =>
    rename_i a xs ds
    rw [show isTup (.tuple ds) = true from rfl]
    walk_at "rd"
    refine ⟨_, xs, rfl, .inr (SqT.of ha), ?_⟩
    walk_at "rd"
    have hxl := tgAll_len r
    cases r with
    | nil =>
      refine r_itep rfl ?_
      walk_at "rd"
      exact bad rfl
    | cons r1 r =>
      rename_i u d us ds
      refine r_iteN (by rw [List.length_cons]; omega) ?_
      walk_at "rd"
      refine r_ixT (SqT.of ha) at0' ?_
      walk_at "rd"
      refine i_str r1 ?_
      walk_at "rd"
      cases r1 with
      | str k hk =>
        rw [show isStr (.str k) = true from rfl]
        walk_at "rd"
        refine r_ixT (SqT.of ha) at0' ?_
        walk_at "rd"
        refine r_iten (fun c => ?_) (fun c => ?_)
        · walk_at "rd"
          refine r_ixT (SqT.of ha) at0' ?_
          walk_at "rd"
          refine r_iten (fun c2 => ?_) (fun c2 => ?_)
          · walk_at "rd"
            have c3 : isCon (.tuple (.str k :: ds)) = false := by
              show (decide (k = "list") || decide (k = "map")) = false
              rw [decide_eq_false c, decide_eq_false c2]
              rfl
            rw [isv_leaf c3] at h
            exact ⟨_, rfl, z, N, k, ds, t0, hn, c, c2, fun H1 s1 => h H1 s1⟩
          · subst c2
            walk_at "rd"
            refine ⟨_, _, rfl, .inr (SqT.of ha), ?_⟩
            walk_at "rd"
            refine r_iten (fun c5 => ?_) (fun c5 => ?_)
            · walk_at "rd"
              refine bad (snd_no ?_)
              rw [List.length_cons] at c5
              rw [List.length_cons, List.length_cons] at hxl
              show (2 : Nat) ≠ _
              omega
            have hr1 : ds.length = 1 := by
              rw [List.length_cons] at c5
              rw [List.length_cons, List.length_cons] at hxl
              omega
            obtain ⟨d1, rfl⟩ : ∃ d1, ds = [d1] := by
              match ds, hr1 with
              | [d1], _ => exact ⟨d1, rfl⟩
            cases r with
            | cons r1 r =>
            cases r
            walk_at "rd"
            refine r_ite (fun c6 => ?_) (fun c6 => ?_)
            · walk_at "rd"
              have hl0 : l = 0 := by omega
              subst hl0
              have e0 : isv 0 (.tuple [.str "map", d1]) = false := by
                show (isSnd _ && !isCon _) = false
                rw [show isCon (.tuple [.str "map", d1]) = true from rfl, Bool.not_true, Bool.and_false]
              rw [e0] at h
              exact h H (Same.refl H)
            obtain ⟨l, rfl⟩ : ∃ l', l = l' + 1 := ⟨l - 1, by omega⟩
            walk_at "rd"
            refine r_ixT (SqT.of ha) at1' ?_
            walk_at "rd"
            refine i_tup r1 ?_
            walk_at "rd"
            cases r1 with
            | tup hb hl2 rb =>
              rename_i b bs es
              rw [show isTup (.tuple es) = true from rfl]
              walk_at "rd"
              refine r_ixT (SqT.of ha) at0' ?_
              walk_at "rd"
              refine r_itep rfl ?_
              walk_at "rd"
              refine r_ixT (SqT.of ha) at1' ?_
              walk_at "rd"
              have ev : isv (l + 1) (.tuple [.str "map", .tuple es]) = mapB l (.tuple es) := by
                show (entsB none es && (es.map entV).all (isv l)) = (entsB none es && es.all fun e => isv l (entV e))
                rw [List.all_map]
                rfl
              rw [ev] at h
              exact ⟨_, _, rfl, z, N, .tuple es, l, .tup hb hl2 rb, hn, congrArg V.int (by omega), by omega, fun H2 s2 => h H2 s2⟩
            | _ =>
              rw [show isTup _ = false from rfl]
              walk_at "rd"
              exact bad rfl
        · subst c
          walk_at "rd"
          refine ⟨_, _, rfl, .inr (SqT.of ha), ?_⟩
          walk_at "rd"
          refine r_iten (fun c5 => ?_) (fun c5 => ?_)
          · walk_at "rd"
            refine bad (snd_no ?_)
            rw [List.length_cons] at c5
            rw [List.length_cons, List.length_cons] at hxl
            show (2 : Nat) ≠ _
            omega
          have hr1 : ds.length = 1 := by
            rw [List.length_cons] at c5
            rw [List.length_cons, List.length_cons] at hxl
            omega
          obtain ⟨d1, rfl⟩ : ∃ d1, ds = [d1] := by
            match ds, hr1 with
            | [d1], _ => exact ⟨d1, rfl⟩
          cases r with
          | cons r1 r =>
          cases r
          walk_at "rd"
          refine r_ite (fun c6 => ?_) (fun c6 => ?_)
          · walk_at "rd"
            have hl0 : l = 0 := by omega
            subst hl0
            have e0 : isv 0 (.tuple [.str "list", d1]) = false := by
              show (isSnd _ && !isCon _) = false
              rw [show isCon (.tuple [.str "list", d1]) = true from rfl, Bool.not_true, Bool.and_false]
            rw [e0] at h
            exact h H (Same.refl H)
          obtain ⟨l, rfl⟩ : ∃ l', l = l' + 1 := ⟨l - 1, by omega⟩
          walk_at "rd"
          refine r_ixT (SqT.of ha) at1' ?_
          walk_at "rd"
          refine i_tup r1 ?_
          walk_at "rd"
          cases r1 with
          | tup hb hl2 rb =>
            rename_i b bs es
            rw [show isTup (.tuple es) = true from rfl]
            walk_at "rd"
            refine r_ixT (SqT.of ha) at0' ?_
            walk_at "rd"
            refine r_iteN (by decide) ?_
            walk_at "rd"
            refine r_ixT (SqT.of ha) at1' ?_
            have ev : isv (l + 1) (.tuple [.str "list", .tuple es]) = es.all (isv l) := Bool.true_and _
            rw [ev] at h
            refine ⟨b, rfl, ⟨bs, SqT.of hb⟩, fun D nD => ?_⟩
            refine lc_tup (xs := bs) (fun i H' => ∃ acc : List V, Same H H' ∧ H' D = some (.lst acc) ∧ acc.length ≤ i ∧ (acc.length = 0 ↔ (es.take i).all (isv l) = true)) ⟨[], same_upd nD _, upd_same, Nat.le_refl _, ⟨fun _ => rfl, fun _ => rfl⟩⟩ (fun i H' _ q => by obtain ⟨_, q1, _⟩ := q; exact SqT.of (q1 _ _ hb)) ?_ ?_
            · rintro i x H1 hx ⟨acc, s1, hD, hle, hiff⟩
              obtain ⟨d, hd, t2⟩ := tgAll_get rb hx
              have hi : i < bs.length := (List.getElem?_eq_some_iff.mp hx).1
              have et : (es.take (i + 1)).all (isv l) = ((es.take i).all (isv l) && isv l d) := by
                rw [take_oneD hd, List.all_append]
                simp
              walk_at "rd"
              refine ⟨rfl, ?_⟩
              walk_at "rd"
              refine ⟨_, _, rfl, z, N, d, l, t2.same s1, hn, congrArg V.int (by omega), by omega, fun H2 s2 => ?_⟩
              walk_at "rd"
              have hD2 := s2 _ _ hD
              cases c3 : isv l d with
              | true =>
                rw [c3, Bool.and_true] at et
                walk_at "rd"
                exact ⟨acc, s1.trans s2, hD2, Nat.le_succ_of_le hle, by rw [et]; exact hiff⟩
              | false =>
                rw [c3, Bool.and_false] at et
                walk_at "rd"
                refine ⟨acc, hD2, small4k (by omega), acc ++ [x], ?_, upd_same, by rw [List.length_append]; exact Nat.succ_le_succ hle, ?_⟩
                · intro b o hb
                  rw [upd_ne (ne_of_none hb nD)]
                  exact s2 _ _ (s1 _ _ hb)
                · rw [et, List.length_append]
                  exact ⟨fun q => by simp at q, fun q => by cases q⟩
            · rintro H1 ⟨acc, s1, hD, hle, hiff⟩
              rw [tgAll_len rb, List.take_length] at hiff
              walk_at "rd"
              refine ⟨D, acc, rfl, .inl (SqL.of hD), ?_⟩
              walk_at "rd"
              have hh := h H1 s1
              have : decide ((acc.length : Int) = 0) = es.all (isv l) := by
                cases q : es.all (isv l) with
                | true => exact decide_eq_true (by have := hiff.mpr q; omega)
                | false =>
                  refine decide_eq_false fun z => ?_
                  have := hiff.mp (by omega)
                  rw [q] at this
                  cases this
              rw [this]
              exact hh
          | _ =>
            rw [show isTup _ = false from rfl]
            walk_at "rd"
            exact bad rfl
      | _ =>
        rw [show isStr _ = false from rfl]
        walk_at "rd"
        exact bad rfl
  | _ =>
    rw [show isTup _ = false from rfl]
    walk_at "rd"
    exact bad rfl
theorem rec__law_is_value (Fm : FunD K "_law_is_map" "_law_is_map" (defArgs s__law_is_map) (defBody s__law_is_map) (defScope s__law_is_map) [] [] (glAd "_law_is_map" K) fd2) (mm : mg "_law_is_map" = some (.ref (glAd "_law_is_map" K)))
    (F : FunD K "_law_is_value" "_law_is_value" (defArgs s__law_is_value) (defBody s__law_is_value) (defScope s__law_is_value) [] [] (glAd "_law_is_value" K) fd) (m : mg "_law_is_value" = some (.ref (glAd "_law_is_value" K))) (nb : Nm w K mg)
    (c__law_are_points : Cal P w K mg base 3 "_law_are_points" (sp__law_are_points K) []) (c__law_is_leaf : Cal P w K mg base 4 "_law_is_leaf" (sp__law_is_leaf K) []) : ∀ n, Cal P w K mg base (10 + 2 * n) "_law_is_value" (sp__law_is_value K n) []
  | 0 => calD (k := 9) F m sc__law_is_value (fun _ _ _ _ _ _ us hl => match us, hl with | [_, _], _ => rfl) (fun _ _ _ _ h => (no__law_is_value h).elim) (fun _ _ _ _ _ _ _ _ _ h => (no__law_is_value h).elim)
  | n + 1 => ok__law_is_value n F m nb c__law_is_leaf (ok__law_is_map n Fm mm nb c__law_are_points (rec__law_is_value Fm mm F m nb c__law_are_points c__law_is_leaf n)) (rec__law_is_value Fm mm F m nb c__law_are_points c__law_is_leaf n)
end

/-! ### nested values, and where they stand -/
theorem hu65 {A : Around} {k : Nat} (hr : Room k A) : A.units + 65 < cLine := by
  have := hr.un
  omega
theorem ps_never {X : Cx} {st : Stmt} : PS X st (fun _ _ _ => False) := ⟨fun _ _ _ _ _ _ h => h.elim⟩
inductive Vl where
  | lf (k : Str) (r : List PyData)
  | ls (xs : List Vl)
  | mp (es : List (List Int × Vl))
def kd (k : List Int) : PyData := .tuple (k.map PyData.int)
mutual
def Vl.dat : Vl → PyData
  | .lf k r => .tuple (.str k :: r)
  | .ls xs => .tuple [.str "list", .tuple (datL xs)]
  | .mp es => .tuple [.str "map", .tuple (datM es)]
def datL : List Vl → List PyData
  | [] => []
  | x :: xs => x.dat :: datL xs
def datM : List (List Int × Vl) → List PyData
  | [] => []
  | (k, v) :: es => .tuple [kd k, v.dat] :: datM es
end
/-- leaves -/
inductive Lf : Str → List PyData → Prop
  | null : Lf "null" []
  | truth (b : Bool) : Lf "truth" [.bool b]
  | number (m e : Int) : Lf "number" [.int m, .int e]
  | bytes (os : List Int) (h : os.length ≤ 300) : Lf "bytes" [kd os]
  | text (ps : List Int) (h : ps.length ≤ 200) : Lf "text" [kd ps]
mutual
def Vl.ok : Nat → Vl → Prop
  | _, .lf k r => Lf k r
  | 0, .ls _ => False
  | n + 1, .ls xs => xs.length ≤ 49 ∧ vokL n xs
  | 0, .mp _ => False
  | n + 1, .mp es => es.length ≤ 49 ∧ (es.map (·.1)).Pairwise (fun x y => HT.lexLt x y = true) ∧ (∀ e ∈ es, e.1.length ≤ 200) ∧ vokM n es
def vokL : Nat → List Vl → Prop
  | _, [] => True
  | n, x :: xs => x.ok n ∧ vokL n xs
def vokM : Nat → List (List Int × Vl) → Prop
  | _, [] => True
  | n, (_, v) :: es => v.ok n ∧ vokM n es
end
theorem vokL_app : ∀ {n : Nat} {xs ys : List Vl}, vokL n xs → vokL n ys → vokL n (xs ++ ys)
  | _, [], _, _, h => h
  | _, x :: xs, _, h1, h2 => ⟨h1.1, vokL_app h1.2 h2⟩
theorem vokL_mem : ∀ {n : Nat} {xs : List Vl}, vokL n xs → ∀ x ∈ xs, x.ok n
  | _, [], _, x, h => absurd h (by simp)
  | _, y :: ys, h, x, hx => by
    rcases List.mem_cons.mp hx with e | e
    · rw [e]
      exact h.1
    · exact vokL_mem h.2 x e
theorem vokM_mem : ∀ {n : Nat} {es : List (List Int × Vl)}, vokM n es → ∀ e ∈ es, e.2.ok n
  | _, [], _, x, h => absurd h (by simp)
  | _, (k, v) :: ys, h, x, hx => by
    rcases List.mem_cons.mp hx with e | e
    · rw [e]
      exact h.1
    · exact vokM_mem h.2 x e
theorem vokM_of : ∀ {n : Nat} {es : List (List Int × Vl)}, (∀ e ∈ es, e.2.ok n) → vokM n es
  | _, [], _ => trivial
  | _, (k, v) :: ys, h => ⟨h _ (List.mem_cons_self ..), vokM_of fun e he => h e (List.mem_cons_of_mem _ he)⟩
theorem datL_app : ∀ (xs ys : List Vl), datL (xs ++ ys) = datL xs ++ datL ys
  | [], _ => rfl
  | x :: xs, ys => congrArg (x.dat :: ·) (datL_app xs ys)
theorem datM_map : ∀ (es : List (List Int × Vl)), datM es = es.map fun e => .tuple [kd e.1, e.2.dat]
  | [] => rfl
  | (k, v) :: es => congrArg (PyData.tuple [kd k, v.dat] :: ·) (datM_map es)
theorem datL_map : ∀ (xs : List Vl), datL xs = xs.map Vl.dat
  | [] => rfl
  | x :: xs => congrArg (x.dat :: ·) (datL_map xs)
mutual
inductive Tp (H : Hp) : V → PyData → Prop
  | non : Tp H .non .none
  | bl (b : Bool) : Tp H (.bl b) (.bool b)
  | int (i : Int) : Tp H (.int i) (.int i)
  | str (x : Str) : Tp H (.str x) (.str x)
  | tup {a : Addr} {xs : List V} {ds : List PyData} : H a = some (.tup xs) → TpAll H xs ds → Tp H (.ref a) (.tuple ds)
inductive TpAll (H : Hp) : List V → List PyData → Prop
  | nil : TpAll H [] []
  | cons {v : V} {vs : List V} {d : PyData} {ds : List PyData} : Tp H v d → TpAll H vs ds → TpAll H (v :: vs) (d :: ds)
end
/-- tuples stay -/
def Tk (H H' : Hp) : Prop := ∀ a xs, H a = some (.tup xs) → H' a = some (.tup xs)
theorem Tk.refl (H : Hp) : Tk H H := fun _ _ h => h
theorem Tk.trans {H H1 H2 : Hp} (a : Tk H H1) (b : Tk H1 H2) : Tk H H2 := fun c xs h => b c xs (a c xs h)
theorem Same.tk {H H' : Hp} (s : Same H H') : Tk H H' := fun a xs h => s a _ h
theorem tk_put {H : Hp} {a : Addr} {xs : List V} {o : HO} (h : H a = some (.lst xs)) : Tk H (upd H a o) := fun b ys hb => by
  rw [upd_ne (fun e => by rw [e, h] at hb; cases hb)]
  exact hb
theorem tk_but {H H' : Hp} {a : Addr} {xs : List V} (h : H a = some (.lst xs)) (k : ∀ b o, b ≠ a → H b = some o → H' b = some o) : Tk H H' := fun b ys hb => k b _ (fun e => by rw [e, h] at hb; cases hb) hb
theorem keep_tk {K : Frg} {S : SC} {H H' : Hp} (L : LS K S H) (k : Keep S H H') : Tk H H' := by
  obtain ⟨k1, l, f, e⟩ := L.st
  exact tk_but e fun b o n h => k b o n h
mutual
theorem Tp.tk {H H' : Hp} (k : Tk H H') : ∀ (d : PyData) (v : V), Tp H v d → Tp H' v d
  | .none, _, h => by cases h; exact .non
  | .bool b, _, h => by cases h; exact .bl b
  | .int i, _, h => by cases h; exact .int i
  | .str x, _, h => by cases h; exact .str x
  | .tuple ds, _, h => by
    cases h with
    | tup h1 h2 => exact .tup (k _ _ h1) (TpAll.tk k ds _ h2)
  | .list ds, _, h => by cases h
  | .dict ds, _, h => by cases h
theorem TpAll.tk {H H' : Hp} (k : Tk H H') : ∀ (ds : List PyData) (vs : List V), TpAll H vs ds → TpAll H' vs ds
  | [], _, h => by cases h; exact .nil
  | d :: ds, _, h => by
    cases h with
    | cons h1 h2 => exact .cons (Tp.tk k d _ h1) (TpAll.tk k ds _ h2)
end
mutual
theorem Tp.dp {K : Frg} {H : Hp} : ∀ (d : PyData) (v : V), Tp H v d → Dp K H v d
  | .none, _, h => by cases h; exact .non
  | .bool b, _, h => by cases h; exact .bl b
  | .int i, _, h => by cases h; exact .int i
  | .str x, _, h => by cases h; exact .str x
  | .tuple ds, _, h => by
    cases h with
    | tup h1 h2 => exact .tup (SqT.of h1) (TpAll.dp ds _ h2)
  | .list ds, _, h => by cases h
  | .dict ds, _, h => by cases h
theorem TpAll.dp {K : Frg} {H : Hp} : ∀ (ds : List PyData) (vs : List V), TpAll H vs ds → DpAll K H vs ds
  | [], _, h => by cases h; exact .nil
  | d :: ds, _, h => by
    cases h with
    | cons h1 h2 => exact .cons (Tp.dp d _ h1) (TpAll.dp ds _ h2)
end
theorem tp_tup {H : Hp} {v : V} {ds : List PyData} (h : Tp H v (.tuple ds)) : ∃ a xs, v = .ref a ∧ H a = some (.tup xs) ∧ TpAll H xs ds := by
  cases h with
  | tup h1 h2 => exact ⟨_, _, rfl, h1, h2⟩
theorem tp_ints {H : Hp} : ∀ (ns : List Int), TpAll H (ns.map V.int) (ns.map PyData.int)
  | [] => .nil
  | n :: ns => .cons (.int n) (tp_ints ns)
theorem tp_intsB {H : Hp} : ∀ {xs : List V} (ns : List Int), TpAll H xs (ns.map PyData.int) → xs = ns.map V.int
  | _, [], h => by
    cases h
    rfl
  | _, n :: ns, h => by
    cases h with
    | cons h t =>
      cases h
      rw [tp_intsB ns t]
      rfl
theorem tp_kd {H : Hp} {a : Addr} {ns : List Int} (h : H a = some (.tup (ns.map V.int))) : Tp H (.ref a) (kd ns) := .tup h (tp_ints ns)
theorem tp_kdB {H : Hp} {v : V} {ns : List Int} (h : Tp H v (kd ns)) : ∃ a, v = .ref a ∧ H a = some (.tup (ns.map V.int)) := by
  obtain ⟨a, xs, rfl, h1, h2⟩ := tp_tup h
  rw [tp_intsB ns h2] at h1
  exact ⟨a, rfl, h1⟩
theorem tpAll_app {H : Hp} : ∀ {xs ys : List V} {ds es : List PyData}, TpAll H xs ds → TpAll H ys es → TpAll H (xs ++ ys) (ds ++ es)
  | _, _, _, _, .nil, h => h
  | _, _, _, _, .cons h1 h2, h => .cons h1 (tpAll_app h2 h)
theorem tpAll_len {H : Hp} : ∀ {xs : List V} {ds : List PyData}, TpAll H xs ds → xs.length = ds.length
  | _, _, .nil => rfl
  | _, _, .cons _ h => congrArg (· + 1) (tpAll_len h)
theorem tpAll_get {H : Hp} : ∀ {xs : List V} {ds : List PyData} {i : Nat} {x : V}, TpAll H xs ds → xs[i]? = some x → ∃ d, ds[i]? = some d ∧ Tp H x d
  | [], _, _, _, _, e => by simp at e
  | x :: xs, _, 0, _, .cons h t, e => by
    cases (show some x = some _ from e)
    exact ⟨_, rfl, h⟩
  | x :: xs, _, i + 1, _, .cons h t, e => by
    obtain ⟨d, e1, h1⟩ := tpAll_get (i := i) t (by simpa using e)
    exact ⟨d, by simpa using e1, h1⟩
theorem lay_kds : ∀ (ks : List (List Int)), PyData.canLayAll0 (ks.map kd) = true
  | [] => rfl
  | k :: ks => by
    show (PyData.canLay0 (kd k) && PyData.canLayAll0 (ks.map kd)) = true
    rw [lay_kds ks, show PyData.canLay0 (kd k) = true from lay_kd k]
    rfl
theorem depth_kd1 (k : List Int) : (kd k).depth ≤ 1 := depth_kd k
theorem depth_kds : ∀ (ks : List (List Int)), PyData.depthAll (ks.map kd) ≤ 1
  | [] => by simp [PyData.depthAll]
  | k :: ks => by
    have e := depth_kds ks
    have e2 := depth_kd k
    show max (PyData.depth (kd k)) (PyData.depthAll (ks.map kd)) ≤ 1
    exact Nat.max_le.mpr ⟨e2, e⟩
theorem shaped_kd (k : List Int) : SeqAt.shaped (kd k) = true := by
  unfold SeqAt.shaped
  rw [show PyData.canLay0 (kd k) = true from lay_kd k, decide_eq_true (Nat.le_trans (depth_kd1 k) (by decide))]
  rfl
theorem shaped_kds (ks : List (List Int)) : SeqAt.shaped (.list (ks.map kd)) = true := by
  unfold SeqAt.shaped
  rw [show PyData.canLay0 (.list (ks.map kd)) = true from lay_kds ks, decide_eq_true]
  · rfl
  · have e := depth_kds ks
    show PyData.depthAll (ks.map kd) + 1 ≤ 64
    omega
theorem eqv_kds (k : List Int) : ∀ (ks : List (List Int)), ((ks.map kd).any fun z => PyData.eqv z (kd k)) = decide (k ∈ ks)
  | [] => rfl
  | x :: ks => by
    show (PyData.eqv (kd x) (kd k) || ((ks.map kd).any fun z => PyData.eqv z (kd k))) = _
    rw [eqv_kds k ks, show PyData.eqv (kd x) (kd k) = decide (x = k) from eqv_kd x k]
    by_cases e : x = k
    · rw [e]
      simp
    · rw [decide_eq_false e]
      have : decide (k ∈ x :: ks) = decide (k ∈ ks) := decide_eq_decide.mpr ⟨fun q => by
        rcases List.mem_cons.mp q with q | q
        · exact absurd q.symm e
        · exact q, fun q => List.mem_cons_of_mem _ q⟩
      rw [this]
      rfl

/-! ### the law's draws of values -/
abbrev s__law_normal : Stmt := (top 20)
theorem sc__law_normal : FnScope ["m", "e", "k"] ["m", "e"] (defScope s__law_normal) := ⟨rfl, rfl, rfl, by decide +kernel, rfl, by decide +kernel, by decide +kernel⟩
abbrev s__law_number : Stmt := (top 21)
theorem sc__law_number : FnScope ["state", "pick", "m", "e", "edges", "power", "k"] ["state"] (defScope s__law_number) := ⟨rfl, rfl, rfl, by decide +kernel, rfl, by decide +kernel, by decide +kernel⟩
abbrev s__law_points : Stmt := (top 22)
theorem sc__law_points : FnScope ["state", "menu", "many", "points", "k", "pick", "point"] ["state"] (defScope s__law_points) := ⟨rfl, rfl, rfl, by decide +kernel, rfl, by decide +kernel, by decide +kernel⟩
abbrev s__law_octets : Stmt := (top 23)
theorem sc__law_octets : FnScope ["state", "many", "low", "span", "k"] ["state"] (defScope s__law_octets) := ⟨rfl, rfl, rfl, by decide +kernel, rfl, by decide +kernel, by decide +kernel⟩
abbrev s__law_leaf : Stmt := (top 24)
theorem sc__law_leaf : FnScope ["state", "kinds", "kind"] ["state", "kinds"] (defScope s__law_leaf) := ⟨rfl, rfl, rfl, by decide +kernel, rfl, by decide +kernel, by decide +kernel⟩
abbrev s__law_value : Stmt := (top 25)
theorem sc__law_value : FnScope ["state", "deep", "kinds", "has_maps", "pick", "many", "k", "entries", "key", "entry"] ["state", "deep", "kinds", "has_maps"] (defScope s__law_value) := ⟨rfl, rfl, rfl, by decide +kernel, rfl, by decide +kernel, by decide +kernel⟩
def sp__law_normal : Sp := sp2 fun a b H Q _ => ∃ m e : Int, a = .int m ∧ b = .int e ∧ ∀ (p : Addr) (m' e' : Int) (H' : Hp), H p = none → H' p = some (.tup [.int m', .int e']) → Same H H' → Q (.ref p) H'
def sp__law_number (K : Frg) : Sp := sp1 fun a H Q _ => ∃ S, a = .ref S.a ∧ LS K S H ∧ ∀ (v : V) (m e : Int) (H' : Hp), Tp H' v (.tuple [.str "number", .int m, .int e]) → LS K S H' → Keep S H H' → Q v H'
def sp__law_points (K : Frg) : Sp := sp1 fun a H Q _ => ∃ S, a = .ref S.a ∧ LS K S H ∧ ∀ (p : Addr) (ps : List Int) (H' : Hp), H' p = some (.tup (ps.map V.int)) → ps.length ≤ 200 → LS K S H' → Keep S H H' → Q (.ref p) H'
def sp__law_octets (K : Frg) : Sp := sp1 fun a H Q _ => ∃ S, a = .ref S.a ∧ LS K S H ∧ ∀ (p : Addr) (os : List Int) (H' : Hp), H' p = some (.tup (os.map V.int)) → os.length ≤ 300 → LS K S H' → Keep S H H' → Q (.ref p) H'
def sp__law_leaf (K : Frg) : Sp := sp2 fun a b H Q _ => ∃ S p kinds, a = .ref S.a ∧ b = .ref p ∧ LS K S H ∧ p ≠ S.a ∧ H p = some (.lst (kinds.map V.str)) ∧ kinds ≠ [] ∧ ∀ (v : V) (k : Str) (r : List PyData) (H' : Hp), Lf k r → Tp H' v (.tuple (.str k :: r)) → LS K S H' → Keep S H H' → Q v H'
def sp__law_value (K : Frg) (n : Nat) : Sp := sp4 fun a d b c H Q _ => ∃ S p kinds hm, ∃ deep : Nat, a = .ref S.a ∧ d = .int (deep : Nat) ∧ deep < n ∧ b = .ref p ∧ c = .bl hm ∧ LS K S H ∧ p ≠ S.a ∧ H p = some (.lst (kinds.map V.str)) ∧ kinds ≠ [] ∧
  ∀ (v : V) (t : Vl) (H' : Hp), t.ok deep → Tp H' v t.dat → LS K S H' → Keep S H H' → Q v H'
theorem no__law_value {K : Frg} {vs : List V} {H : Hp} {Q : VK} {E : XK} (h : sp__law_value K 0 vs H Q E) : False := by
  obtain ⟨_, _, _, _, rfl, S, p, kinds, hm, deep, _, _, h, _⟩ := h
  exact absurd h (Nat.not_lt_zero _)
theorem turn10b {x r : Int} {i : Nat} (h : x.natAbs < 10 ^ (60 + 41 * i)) (h0 : 0 ≤ r) (h1 : r < 1000) : (x * (10 ^ 40 + 7) + r).natAbs < 10 ^ (60 + 41 * (i + 1)) := by
  have e : 60 + 41 * (i + 1) = (60 + 41 * i) + 41 := by omega
  rw [e, Nat.pow_add]
  have e41 : (10 : Nat) ^ 41 = 100000000000000000000000000000000000000000 := by decide
  have e40 : (10 : Int) ^ 40 + 7 = 10000000000000000000000000000000000000007 := by decide
  rw [e41, e40]
  omega
def edges13 : List Int := [23, 24, 127, 128, 255, 256, 65535, 65536, 2 ^ 31, 2 ^ 32, 2 ^ 63, 2 ^ 64, 10 ^ 30]
section
variable {P : Program} {w : World} {K : PySem.W.Frag} {mg : Str → Option Value} {base : Heap} {f : Addr} {fd : FuncData}
theorem ok__law_normal (F : FunD K "_law_normal" "_law_normal" (defArgs s__law_normal) (defBody s__law_normal) (defScope s__law_normal) [] [] (glAd "_law_normal" K) fd) (m : mg "_law_normal" = some (.ref (glAd "_law_normal" K))) (nb : Nm w K mg) : Cal P w K mg base 1 "_law_normal" sp__law_normal [] := by
  refine calD F m sc__law_normal (fun _ _ _ _ _ _ us hl => match us, hl with | [_, _], _ => rfl) len2 (fun cdv A outer s H vs Q E hr h => ⟨_, (pss_cons (ps_if (pt_cmpR op_eq (pv 0) pe_int (nomark _))
    (pss_one (ps_ret (pe_tup (pa_cons pe_int (pa_cons pe_int pa_nil)))))
    pss_nil)
    (pss_cons (ps_for PassesOwn.never rfl (pi_range1 rfl nb.range (pa_cons pe_int pa_nil)) (pg_name (i := 2) sc__law_normal.nd rfl (Or.inl rfl))
    (pss_cons (ps_if (pt_cmpR op_ne (pe_op op_mod (pv 0) pe_int) pe_int (nomark _))
    (pss_one (ps_ret (pe_tup (pa_cons (pv 0) (pa_cons (pv 1) pa_nil)))))
    pss_nil)
    (pss_cons (ps_set (i := 0) sc__law_normal.nd rfl (Or.inl rfl) (pe_op op_fdiv (pv 0) pe_int))
    (pss_one (ps_set (i := 1) sc__law_normal.nd rfl (Or.inl rfl) (pe_op op_add (pv 1) pe_int))))))
    (pss_one (ps_ret (pe_tup (pa_cons (pv 0) (pa_cons (pv 1) pa_nil))))))), ?_⟩)
  obtain ⟨_, _, rfl, m, e, rfl, rfl, h⟩ := h
  walk_at "rd"
  refine r_ite (fun c => ?_) (fun c => ?_)
  · walk_at "rd"
    exact ⟨by show 2 ≤ sizeLine; decide, fun p hp => h p _ _ _ hp upd_same (same_upd hp _)⟩
  walk_at "rd"
  refine r_turns (by decide) (by decide) (fun i σ H' => H = H' ∧ ∃ (m' e' : Int) (y : Option V), σ = [some (.int m'), some (.int e'), y]) ⟨rfl, m, e, none, rfl⟩ ?_ ?_
  · rintro i σ _ hi ⟨rfl, m', e', y, rfl⟩
    walk_at "rd"
    refine r_iten (fun c => ?_) (fun c => ?_)
    · walk_at "rd"
      exact ⟨by show 2 ≤ sizeLine; decide, fun p hp => h p _ _ _ hp upd_same (same_upd hp _)⟩
    · walk_at "rd"
      exact ⟨rfl, _, _, _, rfl⟩
  · rintro σ _ ⟨rfl, m', e', y, rfl⟩
    walk_at "rd"
    exact ⟨by show 2 ≤ sizeLine; decide, fun p hp => h p _ _ _ hp upd_same (same_upd hp _)⟩
theorem ok__law_number (F : FunD K "_law_number" "_law_number" (defArgs s__law_number) (defBody s__law_number) (defScope s__law_number) [] [] (glAd "_law_number" K) fd) (m : mg "_law_number" = some (.ref (glAd "_law_number" K))) (nb : Nm w K mg) (c__law_next : Cal P w K mg base 1 "_law_next" (sp__law_next K) []) (c__law_big : Cal P w K mg base 2 "_law_big" (sp__law_big K) []) (c__law_normal : Cal P w K mg base 1 "_law_normal" sp__law_normal []) : Cal P w K mg base 3 "_law_number" (sp__law_number K) [] := by
  refine calD F m sc__law_number (fun _ _ _ _ _ _ us hl => match us, hl with | [_], _ => rfl) len1 (fun cdv A outer s H vs Q E hr h => ⟨_, (pss_cons (ps_set (i := 1) sc__law_number.nd rfl (Or.inl rfl) (pe_c c__law_next hr (by decide) rfl (pa_cons (pv 0) (pa_cons pe_int pa_nil))))
    (pss_cons (ps_set (i := 2) sc__law_number.nd rfl (Or.inl rfl) (pe_c c__law_next hr (by decide) rfl (pa_cons (pv 0) (pa_cons pe_int pa_nil))))
    (pss_cons (ps_set (i := 3) sc__law_number.nd rfl (Or.inl rfl) pe_int)
    (pss_cut (ps_if (pt_cmpR op_in_seq (pv 1) (pe_lst (pa_cons pe_int (pa_cons pe_int pa_nil))) rfl)
    (pss_cons (ps_set (i := 4) sc__law_number.nd rfl (Or.inl rfl) (pe_lst (pa_cons pe_int (pa_cons pe_int (pa_cons pe_int (pa_cons pe_int (pa_cons pe_int (pa_cons pe_int (pa_cons pe_int (pa_cons pe_int (pa_cons (pe_op op_pow pe_int pe_int) (pa_cons (pe_op op_pow pe_int pe_int) (pa_cons (pe_op op_pow pe_int pe_int) (pa_cons (pe_op op_pow pe_int pe_int) (pa_cons (pe_op op_pow pe_int pe_int) pa_nil)))))))))))))))
    (pss_one (ps_set (i := 2) sc__law_number.nd rfl (Or.inl rfl) (pe_op op_sub (pe_op op_add (pe_ix ix_list (pv 4) (pe_c c__law_next hr (by decide) rfl (pa_cons (pv 0) (pa_cons pe_int pa_nil))) (fun _ _ => rfl)) (pe_c c__law_next hr (by decide) rfl (pa_cons (pv 0) (pa_cons pe_int pa_nil)))) pe_int))))
    (pss_one (ps_if (pt_cmpR op_in_seq (pv 1) (pe_lst (pa_cons pe_int (pa_cons pe_int (pa_cons pe_int pa_nil)))) rfl)
    (pss_cons (ps_set (i := 2) sc__law_number.nd rfl (Or.inl rfl) (pe_c c__law_next hr (by decide) rfl (pa_cons (pv 0) (pa_cons pe_int pa_nil))))
    (pss_one (ps_set (i := 3) sc__law_number.nd rfl (Or.inl rfl) (pe_op op_sub (pe_c c__law_next hr (by decide) rfl (pa_cons (pv 0) (pa_cons pe_int pa_nil))) pe_int))))
    (pss_one (ps_if (pt_cmpR op_eq (pv 1) pe_int (nomark _))
    (pss_cons (ps_set (i := 2) sc__law_number.nd rfl (Or.inl rfl) (pe_op op_add pe_int (pe_c c__law_next hr (by decide) rfl (pa_cons (pv 0) (pa_cons pe_int pa_nil)))))
    (pss_one (ps_set (i := 3) sc__law_number.nd rfl (Or.inl rfl) (pe_ix ix_list (pe_lst (pa_cons pe_int (pa_cons pe_int (pa_cons pe_int (pa_cons pe_int (pa_cons pe_int (pa_cons pe_int (pa_cons pe_int (pa_cons pe_int (pa_cons (pe_un un_neg pe_int) (pa_cons (pe_un un_neg pe_int) pa_nil))))))))))) (pe_c c__law_next hr (by decide) rfl (pa_cons (pv 0) (pa_cons pe_int pa_nil))) (fun _ _ => rfl)))))
    (pss_one (ps_if (pt_cmpR op_gt (pv 1) pe_int (nomark _))
    (pss_cons (ps_set (i := 5) sc__law_number.nd rfl (Or.inl rfl) pe_int)
    (pss_cons (ps_for PassesOwn.never rfl (pi_range1 rfl nb.range (pa_cons (pe_c c__law_next hr (by decide) rfl (pa_cons (pv 0) (pa_cons pe_int pa_nil))) pa_nil)) (pg_name (i := 6) sc__law_number.nd rfl (Or.inl rfl))
    (pss_one (ps_set (i := 5) sc__law_number.nd rfl (Or.inl rfl) (pe_op op_mul (pv 5) pe_int))))
    (pss_cons (ps_set (i := 2) sc__law_number.nd rfl (Or.inl rfl) (pe_c c__law_big hr (by decide) rfl (pa_cons (pv 0) (pa_cons (pv 5) pa_nil))))
    (pss_cons (ps_set (i := 3) sc__law_number.nd rfl (Or.inl rfl) (pe_op op_sub (pe_c c__law_next hr (by decide) rfl (pa_cons (pv 0) (pa_cons pe_int pa_nil))) pe_int))
    (pss_one (ps_if (PW.pt (pw_and (pt_cmpR op_eq (pv 1) pe_int (nomark _)) (pw_and1 (pt_cmpR op_gt (pe_ix ix_list (pv 0) pe_int (fun _ _ => rfl)) pe_int (nomark _)))))
    (pss_cons (ps_asg (pe_op op_sub (pe_ix ix_list (pv 0) pe_int (fun _ _ => rfl)) pe_int) (pg_sub (pv 0) pe_int set_list))
    (pss_one (ps_for PassesOwn.never rfl (pi_range1 rfl nb.range (pa_cons (pe_c c__law_next hr (by decide) rfl (pa_cons (pv 0) (pa_cons pe_int pa_nil))) pa_nil)) (pg_name (i := 6) sc__law_number.nd rfl (Or.inl rfl))
    (pss_one (ps_set (i := 2) sc__law_number.nd rfl (Or.inl rfl) (pe_op op_add (pe_op op_mulX (pv 2) (pe_op op_add (pe_op op_pow pe_int pe_int) pe_int)) (pe_c c__law_next hr (by decide) rfl (pa_cons (pv 0) (pa_cons pe_int pa_nil)))))))))
    pss_nil))))))
    pss_nil)))))))
    (pss_cons (ps_asg (pe_c c__law_normal hr (by decide) rfl (pa_cons (pe_ix ix_list (pe_lst (pa_cons (pv 2) (pa_cons (pe_un un_neg (pv 2)) pa_nil))) (pe_c c__law_next hr (by decide) rfl (pa_cons (pv 0) (pa_cons pe_int pa_nil))) (fun _ _ => rfl)) (pa_cons (pv 3) pa_nil))) (pg_tup rfl (pgs_cons (pg_name (i := 2) sc__law_number.nd rfl (Or.inl rfl)) (pgs_cons (pg_name (i := 3) sc__law_number.nd rfl (Or.inl rfl)) pgs_nil))))
    (pss_one (ps_ret (pe_tup (pa_cons pe_str (pa_cons (pv 2) (pa_cons (pv 3) pa_nil))))))))))), ?_⟩)
  obtain ⟨_, rfl, S, rfl, L, h⟩ := h
  walk_at "rd"
  refine d_next L (by decide) fun pick H1 a1 b1 L1 k1 => ?_
  walk_at "rd"
  refine d_next L1 (by decide) fun m0 H2 a2 b2 L2 k2 => ?_
  have k02 := k1.trans k2
  clear k1 k2 L1
  walk_at "rd"
  refine r_cut (fun σ H' => LS K S H' ∧ Keep S H H' ∧ ∃ (m e : Int) (y4 y5 y6 : Option V), σ = [some (.ref S.a), some (.int pick), some (.int m), some (.int e), y4, y5, y6]) ?_ ?_
  · walk_at "rd"
    refine ⟨by show 2 ≤ sizeLine; decide, fun p3 n3 => ?_⟩
    have L3 := L2.new n3 (.lst [.int 4, .int 5])
    have k3 := k02.trans (Keep.of (same_upd n3 (.lst [.int 4, .int 5])))
    refine ⟨p3, [.int 4, .int 5], rfl, .inl (SqL.of upd_same), rfl, rfl, ?_⟩
    generalize upd H2 p3 (.lst [.int 4, .int 5]) = H3 at L3 k3 ⊢
    clear L2 k02
    refine r_bl (r_ifTF (fun _ => ?_) (fun _ => ?_))
    · walk_at "rd"
      refine ⟨by show 13 ≤ sizeLine; decide, fun p4 n4 => ?_⟩
      have hE : upd H3 p4 (.lst (edges13.map V.int)) p4 = some (.lst (edges13.map V.int)) := upd_same
      have L4 := L3.new n4 (.lst (edges13.map V.int))
      have k4 := k3.trans (Keep.of (same_upd n4 (.lst (edges13.map V.int))))
      have pa := L3.ne_free n4
      walk_at "rd"
      refine d_next L4 (by decide) fun r5 H5 a5 b5 L5 k5 => ?_
      obtain ⟨v, hv, ev⟩ := atI_ints (ns := edges13) (k := r5) a5 b5
      refine r_ixL (SqL.of (k5 _ _ pa hE)) ev ?_
      walk_at "rd"
      refine d_next L5 (by decide) fun r6 H6 a6 b6 L6 k6 => ?_
      walk_at "rd"
      exact ⟨L6, (k4.trans k5).trans k6, _, _, _, _, _, rfl⟩
    · walk_at "rd"
      refine ⟨by show 3 ≤ sizeLine; decide, fun p4 n4 => ?_⟩
      have L4 := L3.new n4 (.lst [.int 6, .int 7, .int 8])
      have k4 := k3.trans (Keep.of (same_upd n4 (.lst [.int 6, .int 7, .int 8])))
      refine ⟨p4, [.int 6, .int 7, .int 8], rfl, .inl (SqL.of upd_same), rfl, rfl, ?_⟩
      generalize upd H3 p4 (.lst [.int 6, .int 7, .int 8]) = H4 at L4 k4 ⊢
      clear L3 k3
      refine r_bl (r_ifTF (fun _ => ?_) (fun _ => ?_))
      · walk_at "rd"
        refine d_next L4 (by decide) fun r5 H5 a5 b5 L5 k5 => ?_
        walk_at "rd"
        refine d_next L5 (by decide) fun r6 H6 a6 b6 L6 k6 => ?_
        walk_at "rd"
        exact ⟨L6, (k4.trans k5).trans k6, _, _, _, _, _, rfl⟩
      walk_at "rd"
      refine r_ite (fun c => ?_) (fun c => ?_)
      · walk_at "rd"
        refine d_next L4 (by decide) fun r5 H5 a5 b5 L5 k5 => ?_
        walk_at "rd"
        refine d_pickI (-400) 800 L5 rfl (by show 10 ≤ sizeLine; decide) (by decide) rfl (all_cons ⟨_, rfl, by omega, by omega⟩ (all_cons ⟨_, rfl, by omega, by omega⟩ (all_cons ⟨_, rfl, by omega, by omega⟩ (all_cons ⟨_, rfl, by omega, by omega⟩ (all_cons ⟨_, rfl, by omega, by omega⟩ (all_cons ⟨_, rfl, by omega, by omega⟩ (all_cons ⟨_, rfl, by omega, by omega⟩ (all_cons ⟨_, rfl, by omega, by omega⟩ (all_cons ⟨_, rfl, by omega, by omega⟩ (all_cons ⟨_, rfl, by omega, by omega⟩ all_nil)))))))))) fun z H6 _ _ _ L6 k6 => ?_
        walk_at "rd"
        exact ⟨L6, (k4.trans k5).trans k6, _, _, _, _, _, rfl⟩
      walk_at "rd"
      refine r_ite (fun c => ?_) (fun c => ?_)
      · walk_at "rd"
        refine d_next L4 (by decide) fun r5 H5 a5 b5 L5 k5 => ?_
        have k5 := k4.trans k5
        walk_at "rd"
        refine r_turns (by omega) (by omega) (fun i σ H' => H5 = H' ∧ ∃ (y6 : Option V), σ = [some (.ref S.a), some (.int pick), some (.int m0), some (.int 0), none, some (.int (10 ^ (i + 1))), y6]) ⟨rfl, none, rfl⟩ ?_ ?_
        · rintro i σ _ hi ⟨rfl, y6, rfl⟩
          walk_at "rd"
          exact ⟨rfl, _, by rw [show (10 : Int) ^ (i + 1 + 1) = 10 ^ (i + 1) * 10 from Int.pow_succ _ _]; rfl⟩
        rintro σ _ ⟨rfl, y6, rfl⟩
        walk_at "rd"
        refine d_next L5 (Int.pow_pos (by decide)) fun r6 H6 a6 b6 L6 k6 => ?_
        have e6 : r6.natAbs < 10 ^ (60 + 41 * 0) := by
          have h1 : (10 : Int) ^ (r5.toNat + 1) ≤ 10 ^ 60 := by
            have h2 := pow10_le (a := r5.toNat + 1) (b := 60) (by omega)
            exact_mod_cast h2
          have : (10 : Int) ^ 60 = ((10 ^ 60 : Nat) : Int) := by rw [Int.natCast_pow]; rfl
          omega
        have k6 := k5.trans k6
        walk_at "rd"
        refine d_next L6 (by decide) fun r7 H7 a7 b7 L7 k7 => ?_
        have k7 := k6.trans k7
        walk_at "rd"
        obtain ⟨kk, l, f5, e⟩ := L7.st
        refine r_ite (fun c => ?_) (fun c => ?_)
        · walk_at "rd"
          refine r_ixL (SqL.of e) rfl ?_
          walk_at "rd"
          refine r_ite (fun c => ?_) (fun c => ?_)
          · walk_at "rd"
            refine r_ixL (SqL.of e) rfl ?_
            walk_at "rd"
            refine r_setL e rfl ?_
            walk_at "rd"
            have L8 := L7.put kk l (f5 - 1)
            have k8 := k7.trans (Keep.put (H := H7) (.lst [.ref S.nl, .int kk, .int l, .ref S.sl, .int (f5 - 1)]))
            refine d_next L8 (by decide) fun r9 H9 a9 b9 L9 k9 => ?_
            have k9 := k8.trans k9
            walk_at "rd"
            refine r_turns (by omega) (by omega) (fun i σ H' => LS K S H' ∧ Keep S H H' ∧ ∃ (x : Int) (y6 : Option V), x.natAbs < 10 ^ (60 + 41 * i) ∧ σ = [some (.ref S.a), some (.int pick), some (.int x), some (.int (r7 - 45)), none, some (.int (10 ^ (r5.toNat + 1))), y6]) ⟨L9, k9, r6, _, e6, rfl⟩ ?_ ?_
            · rintro i σ H10 hi ⟨L10, k10, x, y6', hx, rfl⟩
              walk_at "rd"
              refine r_I (mulx_ok (abs10 hx) (b := 200) (by decide +kernel) (by omega)) ?_
              walk_at "rd"
              refine d_next L10 (by decide) fun r11 H11 a11 b11 L11 k11 => ?_
              walk_at "rd"
              exact ⟨L11, k10.trans k11, _, _, turn10b hx a11 b11, rfl⟩
            · rintro σ H10 ⟨L10, k10, x, y6', hx, rfl⟩
              walk_at "rd"
              exact ⟨L10, k10, _, _, _, _, _, rfl⟩
          · walk_at "rd"
            exact ⟨L7, k7, _, _, _, _, _, rfl⟩
        · walk_at "rd"
          exact ⟨L7, k7, _, _, _, _, _, rfl⟩
      · walk_at "rd"
        exact ⟨L4, k4, _, _, _, _, _, rfl⟩
  · rintro σ H3 ⟨L3, k3, m, e, y4, y5, y6, rfl⟩
    walk_at "rd"
    refine d_pick (xs := [.int m, .int (-m)]) L3 rfl (by show 2 ≤ sizeLine; decide) (by decide) rfl fun v H4 hv L4 k4 => ?_
    obtain ⟨z, rfl⟩ : ∃ z, v = V.int z := by
      rcases List.mem_cons.mp hv with e | e
      · exact ⟨_, e⟩
      · exact ⟨_, by simpa using e⟩
    walk_at "rd"
    refine ⟨_, _, rfl, z, e, rfl, rfl, fun p m' e' H5 np hp s5 => ?_⟩
    refine r_gtup (SqT.of hp) rfl ?_
    walk_at "rd"
    refine ⟨by show 3 ≤ sizeLine; decide, fun q nq => ?_⟩
    have L6 := (L4.same s5).new nq (.tup [.str "number", .int m', .int e'])
    exact h (.ref q) m' e' _ (.tup upd_same (.cons (.str _) (.cons (.int _) (.cons (.int _) .nil)))) L6 (((k3.trans k4).trans (Keep.of s5)).trans (Keep.of (same_upd nq _)))
end

section
variable {P : Program} {w : World} {K : PySem.W.Frag} {mg : Str → Option Value} {base : Heap} {f : Addr} {fd : FuncData}
/-- a list that was new at H stays one's own: the rest of the state is kept -/
theorem keep_away {S : SC} {H H' : Hp} {D : Addr} {o : HO} (k : Keep S H H') (n : H D = none) : Keep S H (upd H' D o) := fun b u hb h => by
  rw [upd_ne (fun e => by rw [e, n] at h; cases h)]
  exact k b u hb h
def menu12 : List Int := [34, 92, 47, 127, 128, 2047, 2048, 55295, 57344, 65535, 65536, 1114111]
theorem ok__law_points (F : FunD K "_law_points" "_law_points" (defArgs s__law_points) (defBody s__law_points) (defScope s__law_points) [] [] (glAd "_law_points" K) fd) (m : mg "_law_points" = some (.ref (glAd "_law_points" K))) (nb : Nm w K mg) (c__law_next : Cal P w K mg base 1 "_law_next" (sp__law_next K) []) : Cal P w K mg base 2 "_law_points" (sp__law_points K) [] := by
  refine calD F m sc__law_points (fun _ _ _ _ _ _ us hl => match us, hl with | [_], _ => rfl) len1 (fun cdv A outer s H vs Q E hr h => ⟨_, (pss_cons (ps_set (i := 1) sc__law_points.nd rfl (Or.inl rfl) (pe_lst (pa_cons pe_int (pa_cons pe_int (pa_cons pe_int (pa_cons pe_int (pa_cons pe_int (pa_cons pe_int (pa_cons pe_int (pa_cons pe_int (pa_cons pe_int (pa_cons pe_int (pa_cons pe_int (pa_cons pe_int pa_nil))))))))))))))
    (pss_cons (ps_set (i := 2) sc__law_points.nd rfl (Or.inl rfl) (pe_c c__law_next hr (by decide) rfl (pa_cons (pv 0) (pa_cons pe_int pa_nil))))
    (pss_cut (ps_if (PW.pt (pw_and (pt_cmpR op_gt (pe_ix ix_list (pv 0) pe_int (fun _ _ => rfl)) pe_int (nomark _)) (pw_and1 (pt_cmpR op_eq (pe_c c__law_next hr (by decide) rfl (pa_cons (pv 0) (pa_cons pe_int pa_nil))) pe_int (nomark _)))))
    (pss_cons (ps_asg (pe_op op_sub (pe_ix ix_list (pv 0) pe_int (fun _ _ => rfl)) pe_int) (pg_sub (pv 0) pe_int set_list))
    (pss_one (ps_set (i := 2) sc__law_points.nd rfl (Or.inl rfl) (pe_op op_add pe_int (pe_c c__law_next hr (by decide) rfl (pa_cons (pv 0) (pa_cons pe_int pa_nil)))))))
    pss_nil)
    (pss_cons (ps_set (i := 3) sc__law_points.nd rfl (Or.inl rfl) (pe_lst pa_nil))
    (pss_cons (ps_for PassesOwn.never rfl (pi_range1 rfl nb.range (pa_cons (pv 2) pa_nil)) (pg_name (i := 4) sc__law_points.nd rfl (Or.inl rfl))
    (pss_cons (ps_set (i := 5) sc__law_points.nd rfl (Or.inl rfl) (pe_c c__law_next hr (by decide) rfl (pa_cons (pv 0) (pa_cons pe_int pa_nil))))
    (pss_cons (ps_set (i := 6) sc__law_points.nd rfl (Or.inl rfl) (pe_op op_add pe_int (pe_c c__law_next hr (by decide) rfl (pa_cons (pv 0) (pa_cons pe_int pa_nil)))))
    (pss_cut (ps_if (pt_cmpR op_eq (pv 5) pe_int (nomark _))
    (pss_one (ps_set (i := 6) sc__law_points.nd rfl (Or.inl rfl) (pe_ix ix_list (pv 1) (pe_c c__law_next hr (by decide) rfl (pa_cons (pv 0) (pa_cons pe_int pa_nil))) (fun _ _ => rfl))))
    pss_nil)
    (pss_cut (ps_if (pt_cmpR op_eq (pv 5) pe_int (nomark _))
    (pss_one (ps_set (i := 6) sc__law_points.nd rfl (Or.inl rfl) (pe_c c__law_next hr (by decide) rfl (pa_cons (pv 0) (pa_cons pe_int pa_nil)))))
    pss_nil)
    (pss_cut (ps_if (pt_cmpR op_eq (pv 5) pe_int (nomark _))
    (pss_cons (ps_set (i := 6) sc__law_points.nd rfl (Or.inl rfl) (pe_op op_add (pe_op op_mul pe_int (pe_c c__law_next hr (by decide) rfl (pa_cons (pv 0) (pa_cons pe_int pa_nil)))) (pe_c c__law_next hr (by decide) rfl (pa_cons (pv 0) (pa_cons pe_int pa_nil)))))
    (pss_one (ps_set (i := 6) sc__law_points.nd rfl (Or.inl rfl) (pe_op op_add (pv 6) (pe_op op_mul pe_int (pe_callTy call_int1 (by rfl) nb.int (by decide +kernel) (pa_cons (pe_cmpR op_gt (pv 6) pe_int (nomark _)) pa_nil)))))))
    pss_nil)
    (pss_one (ps_expr (pe_bm PySem.F.plainAttrs_list PySem.F.slot_list_append PySem.F.type_list_append mt_append (pv 3) (pa_cons (pv 6) pa_nil))))))))))
    (pss_one (ps_ret (pe_callTy call_tuple_of (by rfl) nb.tuple (by decide +kernel) (pa_cons (pv 3) pa_nil))))))))), ?_⟩)
  obtain ⟨_, rfl, S, rfl, L, h⟩ := h
  walk_at "rd"
  refine ⟨by show 12 ≤ sizeLine; decide, fun pm nm => ?_⟩
  have hM1 : upd H pm (.lst (menu12.map V.int)) pm = some (.lst (menu12.map V.int)) := upd_same
  have L1 := L.new nm (.lst (menu12.map V.int))
  have k1 : Keep S H (upd H pm (.lst (menu12.map V.int))) := Keep.of (same_upd nm _)
  have pS := L.ne_free nm
  walk_at "rd"
  refine d_next L1 (by decide) fun m0 H2 a2 b2 L2 k2 => ?_
  have hM2 := k2 _ _ pS hM1
  have k2 := k1.trans k2
  clear L1 k1 hM1
  walk_at "rd"
  refine r_cut (fun σ H' => LS K S H' ∧ Keep S H H' ∧ H' pm = some (.lst (menu12.map V.int)) ∧ ∃ (m : Int), 0 ≤ m ∧ m ≤ 139 ∧ σ = [some (.ref S.a), some (.ref pm), some (.int m), none, none, none, none]) ?_ ?_
  · walk_at "rd"
    obtain ⟨kk, l, f5, e⟩ := L2.st
    refine r_ixL (SqL.of e) rfl ?_
    walk_at "rd"
    refine r_ite (fun c => ?_) (fun c => ?_)
    · walk_at "rd"
      refine d_next L2 (by decide) fun r3 H3 a3 b3 L3 k3 => ?_
      have hM3 := k3 _ _ pS hM2
      have k3 := k2.trans k3
      walk_at "rd"
      refine r_ite (fun c => ?_) (fun c => ?_)
      · walk_at "rd"
        obtain ⟨kk, l, f5, e⟩ := L3.st
        refine r_ixL (SqL.of e) rfl ?_
        walk_at "rd"
        refine r_setL e rfl ?_
        walk_at "rd"
        have L4 := L3.put kk l (f5 - 1)
        have k4 := k3.trans (Keep.put (H := H3) (.lst [.ref S.nl, .int kk, .int l, .ref S.sl, .int (f5 - 1)]))
        have hM4 := (Keep.put (S := S) (H := H3) (.lst [.ref S.nl, .int kk, .int l, .ref S.sl, .int (f5 - 1)])) _ _ pS hM3
        refine d_next L4 (by decide) fun r5 H5 a5 b5 L5 k5 => ?_
        walk_at "rd"
        exact ⟨L5, k4.trans k5, k5 _ _ pS hM4, _, by omega, by omega, rfl⟩
      · walk_at "rd"
        exact ⟨L3, k3, hM3, _, a2, by omega, rfl⟩
    · walk_at "rd"
      exact ⟨L2, k2, hM2, _, a2, by omega, rfl⟩
  rintro σ H3 ⟨L3, k3, hM3, m, hm0, hm1, rfl⟩
  clear L2 k2 hM2
  walk_at "rd"
  refine ⟨Nat.zero_le _, fun D nD => ?_⟩
  have L4 := L3.new nD (.lst [])
  have DS := L3.ne_free nD
  have nD0 : H D = none := k3.free L3 nD
  have hM4 := same_upd nD (.lst []) _ _ hM3
  have Dp := ne_of_none hM3 nD
  have k4 : Keep S H (upd H3 D (.lst [])) := k3.trans (Keep.of (same_upd nD _))
  walk_at "rd"
  refine r_turns (by omega) (by omega) (fun i σ H' => LS K S H' ∧ Keep S H H' ∧ H' pm = some (.lst (menu12.map V.int)) ∧ ∃ (ps : List Int) (y4 y5 y6 : Option V), ps.length = i ∧ H' D = some (.lst (ps.map V.int)) ∧ σ = [some (.ref S.a), some (.ref pm), some (.int m), some (.ref D), y4, y5, y6]) ⟨L4, k4, hM4, [], _, _, _, rfl, upd_same, rfl⟩ ?_ ?_
  · rintro i σ H5 hi ⟨L5, k5, hM5, ps, y4, y5, y6, hl, hD5, rfl⟩
    walk_at "rd"
    refine d_next L5 (by decide) fun r6 H6 a6 b6 L6 k6 => ?_
    walk_at "rd"
    refine d_next L6 (by decide) fun r7 H7 a7 b7 L7 k7 => ?_
    have hM7 := k7 _ _ pS (k6 _ _ pS hM5)
    have hD7 := k7 _ _ DS (k6 _ _ DS hD5)
    have k7 := (k5.trans k6).trans k7
    clear L5 L6 k5 k6 hM5 hD5
    walk_at "rd"
    have mid : ∀ (H' : Hp) (pt : Int), LS K S H' → Keep S H H' → H' pm = some (.lst (menu12.map V.int)) → H' D = some (.lst (ps.map V.int)) → (fun (σ : St) (H' : Hp) => LS K S H' ∧ Keep S H H' ∧ H' pm = some (.lst (menu12.map V.int)) ∧ H' D = some (.lst (ps.map V.int)) ∧ ∃ pt : Int, σ = [some (.ref S.a), some (.ref pm), some (.int m), some (.ref D), some (.int (i : Nat)), some (.int r6), some (.int pt)]) [some (.ref S.a), some (.ref pm), some (.int m), some (.ref D), some (.int (i : Nat)), some (.int r6), some (.int pt)] H' := fun H' pt h1 h2 h3 h4 => ⟨h1, h2, h3, h4, pt, rfl⟩
    refine r_cut (fun σ H' => LS K S H' ∧ Keep S H H' ∧ H' pm = some (.lst (menu12.map V.int)) ∧ H' D = some (.lst (ps.map V.int)) ∧ ∃ pt : Int, σ = [some (.ref S.a), some (.ref pm), some (.int m), some (.ref D), some (.int (i : Nat)), some (.int r6), some (.int pt)]) ?_ ?_
    · walk_at "rd"
      refine r_ite (fun c => ?_) (fun c => ?_)
      · walk_at "rd"
        refine d_next L7 (by decide) fun r8 H8 a8 b8 L8 k8 => ?_
        obtain ⟨v, hv, ev⟩ := atI_ints (ns := menu12) (k := r8) a8 b8
        refine r_ixL (SqL.of (k8 _ _ pS hM7)) ev ?_
        exact mid H8 v L8 (k7.trans k8) (k8 _ _ pS hM7) (k8 _ _ DS hD7)
      · walk_at "rd"
        exact mid H7 _ L7 k7 hM7 hD7
    rintro σ H8 ⟨L8, k8, hM8, hD8, pt, rfl⟩
    clear L7 k7 hM7 hD7
    refine r_cut (fun σ H' => LS K S H' ∧ Keep S H H' ∧ H' pm = some (.lst (menu12.map V.int)) ∧ H' D = some (.lst (ps.map V.int)) ∧ ∃ pt : Int, σ = [some (.ref S.a), some (.ref pm), some (.int m), some (.ref D), some (.int (i : Nat)), some (.int r6), some (.int pt)]) ?_ ?_
    · walk_at "rd"
      refine r_ite (fun c => ?_) (fun c => ?_)
      · walk_at "rd"
        refine d_next L8 (by decide) fun r9 H9 a9 b9 L9 k9 => ?_
        exact mid H9 _ L9 (k8.trans k9) (k9 _ _ pS hM8) (k9 _ _ DS hD8)
      · walk_at "rd"
        exact mid H8 _ L8 k8 hM8 hD8
    rintro σ H9 ⟨L9, k9, hM9, hD9, pt, rfl⟩
    clear L8 k8 hM8 hD8
    refine r_cut (fun σ H' => LS K S H' ∧ Keep S H H' ∧ H' pm = some (.lst (menu12.map V.int)) ∧ H' D = some (.lst (ps.map V.int)) ∧ ∃ pt : Int, σ = [some (.ref S.a), some (.ref pm), some (.int m), some (.ref D), some (.int (i : Nat)), some (.int r6), some (.int pt)]) ?_ ?_
    · walk_at "rd"
      refine r_ite (fun c => ?_) (fun c => ?_)
      · walk_at "rd"
        refine d_next L9 (by decide) fun r10 H10 a10 b10 L10 k10 => ?_
        walk_at "rd"
        refine d_next L10 (by decide) fun r11 H11 a11 b11 L11 k11 => ?_
        walk_at "rd"
        refine .inr ⟨_, rfl, ?_⟩
        walk_at "rd"
        exact mid H11 _ L11 ((k9.trans k10).trans k11) (k11 _ _ pS (k10 _ _ pS hM9)) (k11 _ _ DS (k10 _ _ DS hD9))
      · walk_at "rd"
        exact mid H9 _ L9 k9 hM9 hD9
    rintro σ H10 ⟨L10, k10, hM10, hD10, pt, rfl⟩
    walk_at "rd"
    refine ⟨tyL hD10, ?_⟩
    walk_at "rd"
    refine r_app hD10 (small1000 (by rw [List.length_map]; omega)) ?_
    exact ⟨L3.away nD L10 _, keep_away k10 nD0, (upd_ne Dp).trans hM10, ps ++ [pt], _, _, _, by rw [List.length_append, hl]; rfl, by rw [upd_same, map_snoc], rfl⟩
  rintro σ H5 ⟨L5, k5, hM5, ps, y4, y5, y6, hl, hD5, rfl⟩
  walk_at "rd"
  refine ⟨D, _, rfl, .inl ⟨SqL.of hD5, fun t nt => ?_⟩⟩
  exact h t ps _ upd_same (by omega) (L5.new nt _) (k5.trans (Keep.of (same_upd nt _)))
theorem ok__law_octets (F : FunD K "_law_octets" "_law_octets" (defArgs s__law_octets) (defBody s__law_octets) (defScope s__law_octets) [] [] (glAd "_law_octets" K) fd) (m : mg "_law_octets" = some (.ref (glAd "_law_octets" K))) (nb : Nm w K mg) (c__law_next : Cal P w K mg base 1 "_law_next" (sp__law_next K) []) : Cal P w K mg base 2 "_law_octets" (sp__law_octets K) [] := by
  refine calD F m sc__law_octets (fun _ _ _ _ _ _ us hl => match us, hl with | [_], _ => rfl) len1 (fun cdv A outer s H vs Q E hr h => ⟨_, (pss_cons (ps_set (i := 1) sc__law_octets.nd rfl (Or.inl rfl) (pe_c c__law_next hr (by decide) rfl (pa_cons (pv 0) (pa_cons pe_int pa_nil))))
    (pss_cut (ps_if (PW.pt (pw_and (pt_cmpR op_gt (pe_ix ix_list (pv 0) pe_int (fun _ _ => rfl)) pe_int (nomark _)) (pw_and1 (pt_cmpR op_eq (pe_c c__law_next hr (by decide) rfl (pa_cons (pv 0) (pa_cons pe_int pa_nil))) pe_int (nomark _)))))
    (pss_cons (ps_asg (pe_op op_sub (pe_ix ix_list (pv 0) pe_int (fun _ _ => rfl)) pe_int) (pg_sub (pv 0) pe_int set_list))
    (pss_one (ps_set (i := 1) sc__law_octets.nd rfl (Or.inl rfl) (pe_op op_add pe_int (pe_c c__law_next hr (by decide) rfl (pa_cons (pv 0) (pa_cons pe_int pa_nil)))))))
    pss_nil)
    (pss_cons (ps_asg (pe_ix ix_list (pe_lst (pa_cons (pe_tup (pa_cons pe_int (pa_cons pe_int pa_nil))) (pa_cons (pe_tup (pa_cons pe_int (pa_cons pe_int pa_nil))) (pa_cons (pe_tup (pa_cons pe_int (pa_cons pe_int pa_nil))) pa_nil)))) (pe_c c__law_next hr (by decide) rfl (pa_cons (pv 0) (pa_cons pe_int pa_nil))) (fun _ _ => rfl)) (pg_tup rfl (pgs_cons (pg_name (i := 2) sc__law_octets.nd rfl (Or.inr rfl)) (pgs_cons (pg_name (i := 3) sc__law_octets.nd rfl (Or.inr rfl)) pgs_nil))))
    (pss_one (ps_ret (pe_callTy call_tuple_of (by rfl) nb.tuple (by decide +kernel) (pa_cons (pe_lc (own := [("k", 4)]) (g := gName 4) (tt := tYes) rfl sc__law_octets.nd (pi_range1 rfl nb.range (pa_cons (pv 1) pa_nil)) (blkOk_by (N := ["state", "many", "low", "span", "k"]) (sc := defScope s__law_octets) (by decide +kernel)) (fun _ _ _ _ _ => pg_name (i := 4) sc__law_octets.nd rfl (Or.inl rfl)) (fun _ _ _ _ _ => pts_nil) (fun _ _ _ _ _ => (pe_op op_add (pv 2) (pe_c c__law_next hr (by decide) rfl (pa_cons (pv 0) (pa_cons (pv 3) pa_nil)))))) pa_nil))))))), ?_⟩)
  obtain ⟨_, rfl, S, rfl, L, h⟩ := h
  walk_at "rd"
  refine d_next L (by decide) fun m0 H2 a2 b2 L2 k2 => ?_
  walk_at "rd"
  refine r_cut (fun σ H' => LS K S H' ∧ Keep S H H' ∧ ∃ (m : Int), 0 ≤ m ∧ m ≤ 279 ∧ σ = [some (.ref S.a), some (.int m), none, none, none]) ?_ ?_
  · walk_at "rd"
    obtain ⟨kk, l, f5, e⟩ := L2.st
    refine r_ixL (SqL.of e) rfl ?_
    walk_at "rd"
    refine r_ite (fun c => ?_) (fun c => ?_)
    · walk_at "rd"
      refine d_next L2 (by decide) fun r3 H3 a3 b3 L3 k3 => ?_
      have k3 := k2.trans k3
      walk_at "rd"
      refine r_ite (fun c => ?_) (fun c => ?_)
      · walk_at "rd"
        obtain ⟨kk, l, f5, e⟩ := L3.st
        refine r_ixL (SqL.of e) rfl ?_
        walk_at "rd"
        refine r_setL e rfl ?_
        walk_at "rd"
        have L4 := L3.put kk l (f5 - 1)
        have k4 := k3.trans (Keep.put (H := H3) (.lst [.ref S.nl, .int kk, .int l, .ref S.sl, .int (f5 - 1)]))
        refine d_next L4 (by decide) fun r5 H5 a5 b5 L5 k5 => ?_
        walk_at "rd"
        exact ⟨L5, k4.trans k5, _, by omega, by omega, rfl⟩
      · walk_at "rd"
        exact ⟨L3, k3, _, a2, by omega, rfl⟩
    · walk_at "rd"
      exact ⟨L2, k2, _, a2, by omega, rfl⟩
  rintro σ H3 ⟨L3, k3, m, hm0, hm1, rfl⟩
  clear L2 k2
  walk_at "rd"
  refine ⟨by show 2 ≤ sizeLine; decide, fun t1 nt1 => ?_⟩
  have s1 := same_upd nt1 (.tup [.int 0, .int 256])
  walk_at "rd"
  refine ⟨by show 2 ≤ sizeLine; decide, fun t2 nt2 => ?_⟩
  have s2 := same_upd nt2 (.tup [.int 32, .int 95])
  walk_at "rd"
  refine ⟨by show 2 ≤ sizeLine; decide, fun t3 nt3 => ?_⟩
  have s3 := same_upd nt3 (.tup [.int 97, .int 26])
  have g1 := s3 _ _ (s2 _ _ (upd_same : upd H3 t1 (.tup [.int 0, .int 256]) t1 = some (.tup [.int 0, .int 256])))
  have g2 := s3 _ _ (upd_same : upd (upd H3 t1 (.tup [.int 0, .int 256])) t2 (.tup [.int 32, .int 95]) t2 = some (.tup [.int 32, .int 95]))
  have g3 : upd (upd (upd H3 t1 (.tup [.int 0, .int 256])) t2 (.tup [.int 32, .int 95])) t3 (.tup [.int 97, .int 26]) t3 = some (.tup [.int 97, .int 26]) := upd_same
  have s13 := (s1.trans s2).trans s3
  have L4 := L3.same s13
  have k4 := k3.trans (Keep.of s13)
  generalize upd (upd (upd H3 t1 (.tup [.int 0, .int 256])) t2 (.tup [.int 32, .int 95])) t3 (.tup [.int 97, .int 26]) = H4 at g1 g2 g3 L4 k4 ⊢
  clear s1 s2 s3 s13 nt1 nt2 nt3 L3 k3
  walk_at "rd"
  refine d_pick (xs := [.ref t1, .ref t2, .ref t3]) L4 rfl (by show 3 ≤ sizeLine; decide) (by decide) rfl fun v H5 hv L5 k5 => ?_
  have tk := keep_tk L4 k5
  obtain ⟨t, lo, sp, rfl, ht, hsp⟩ : ∃ t lo sp, v = V.ref t ∧ H5 t = some (.tup [.int lo, .int sp]) ∧ 0 < sp := by
    rcases List.mem_cons.mp hv with e | e
    · exact ⟨t1, 0, 256, e, tk _ _ g1, by decide⟩
    rcases List.mem_cons.mp e with e | e
    · exact ⟨t2, 32, 95, e, tk _ _ g2, by decide⟩
    · exact ⟨t3, 97, 26, by simpa using e, tk _ _ g3, by decide⟩
  have k5 := k4.trans k5
  walk_at "rd"
  refine r_gtup (SqT.of ht) rfl ?_
  walk_at "rd"
  refine ⟨by omega, by omega, fun D nD => ?_⟩
  have DS := L5.ne_free nD
  have nD0 : H D = none := k5.free L5 nD
  refine lc_range (fun i H' => LS K S H' ∧ Keep S H H' ∧ ∃ cs : List Int, cs.length = i ∧ H' D = some (.lst (cs.map V.int))) ⟨L5.new nD _, k5.trans (Keep.of (same_upd nD _)), [], rfl, upd_same⟩ ?_ ?_
  · rintro i H6 hi ⟨L6, k6, cs, e1, e2⟩
    walk_at "rd"
    refine ⟨rfl, ?_⟩
    walk_at "rd"
    refine d_next L6 hsp fun c H7 a7 b7 L7 k7 => ?_
    walk_at "rd"
    exact ⟨_, k7 _ _ DS e2, small1000 (by rw [List.length_map]; omega), L5.away nD L7 _, keep_away (k6.trans k7) nD0, cs ++ [lo + c], by rw [List.length_append, e1]; rfl, by rw [upd_same, map_snoc]⟩
  rintro H6 ⟨L6, k6, cs, e1, e2⟩
  walk_at "rd"
  refine ⟨D, _, rfl, .inl ⟨SqL.of e2, fun t nt => ?_⟩⟩
  exact h t cs _ upd_same (by omega) (L6.new nt _) (k6.trans (Keep.of (same_upd nt _)))
theorem ok__law_leaf (F : FunD K "_law_leaf" "_law_leaf" (defArgs s__law_leaf) (defBody s__law_leaf) (defScope s__law_leaf) [] [] (glAd "_law_leaf" K) fd) (m : mg "_law_leaf" = some (.ref (glAd "_law_leaf" K))) (nb : Nm w K mg) (c__law_next : Cal P w K mg base 1 "_law_next" (sp__law_next K) []) (c__law_number : Cal P w K mg base 3 "_law_number" (sp__law_number K) []) (c__law_points : Cal P w K mg base 2 "_law_points" (sp__law_points K) []) (c__law_octets : Cal P w K mg base 2 "_law_octets" (sp__law_octets K) []) : Cal P w K mg base 4 "_law_leaf" (sp__law_leaf K) [] := by
  refine calD F m sc__law_leaf (fun _ _ _ _ _ _ us hl => match us, hl with | [_, _], _ => rfl) len2 (fun cdv A outer s H vs Q E hr h => ⟨_, (pss_cons (ps_set (i := 2) sc__law_leaf.nd rfl (Or.inl rfl) (pe_ix ix_list (pv 1) (pe_c c__law_next hr (by decide) rfl (pa_cons (pv 0) (pa_cons (pe_callB call_len_seq (by rfl) nb.len PySem.boot_len (pa_cons (pv 1) pa_nil)) pa_nil))) (fun _ _ => rfl)))
    (pss_cons (ps_if (pt_cmpR op_eq (pv 2) pe_str (nomark _))
    (pss_one (ps_ret (pe_tup (pa_cons pe_str (pa_cons (pe_cmpR op_eq (pe_c c__law_next hr (by decide) rfl (pa_cons (pv 0) (pa_cons pe_int pa_nil))) pe_int (nomark _)) pa_nil)))))
    pss_nil)
    (pss_cons (ps_if (pt_cmpR op_eq (pv 2) pe_str (nomark _))
    (pss_one (ps_ret (pe_c c__law_number hr (by decide) rfl (pa_cons (pv 0) pa_nil))))
    pss_nil)
    (pss_cons (ps_if (pt_cmpR op_eq (pv 2) pe_str (nomark _))
    (pss_one (ps_ret (pe_tup (pa_cons pe_str (pa_cons (pe_c c__law_octets hr (by decide) rfl (pa_cons (pv 0) pa_nil)) pa_nil)))))
    pss_nil)
    (pss_cons (ps_if (pt_cmpR op_eq (pv 2) pe_str (nomark _))
    (pss_one (ps_ret (pe_tup (pa_cons pe_str (pa_cons (pe_c c__law_points hr (by decide) rfl (pa_cons (pv 0) pa_nil)) pa_nil)))))
    pss_nil)
    (pss_one (ps_ret (pe_tup (pa_cons pe_str pa_nil))))))))), ?_⟩)
  obtain ⟨_, _, rfl, S, p, kinds, rfl, rfl, L, pS, hp, hne, h⟩ := h
  walk_at "rd"
  refine ⟨p, _, rfl, .inl (SqL.of hp), ?_⟩
  rw [List.length_map]
  walk_at "rd"
  have hk0 : 0 < kinds.length := List.length_pos_iff.mpr hne
  refine d_next L (by omega) fun r1 H1 a1 b1 L1 k1 => ?_
  obtain ⟨kind, ek⟩ : ∃ kind : Str, atI (kinds.map V.str) r1 = some (.str kind) := by
    have hr : r1.toNat < kinds.length := by omega
    refine ⟨kinds[r1.toNat], ?_⟩
    have q : atI (kinds.map V.str) ((r1.toNat : Nat) : Int) = some (.str kinds[r1.toNat]) := atI_nat (by rw [List.getElem?_map, List.getElem?_eq_getElem hr]; rfl)
    rw [show ((r1.toNat : Nat) : Int) = r1 by omega] at q
    exact q
  refine r_ixL (SqL.of (k1 _ _ pS hp)) ek ?_
  walk_at "rd"
  refine r_ite (fun c => ?_) (fun c => ?_)
  · walk_at "rd"
    refine d_next L1 (by decide) fun r2 H2 a2 b2 L2 k2 => ?_
    walk_at "rd"
    refine ⟨by show 2 ≤ sizeLine; decide, fun q nq => ?_⟩
    exact h (.ref q) _ _ _ (.truth (decide (r2 = 0))) (.tup upd_same (.cons (.str _) (.cons (.bl _) .nil))) (L2.new nq _) ((k1.trans k2).trans (Keep.of (same_upd nq _)))
  walk_at "rd"
  refine r_ite (fun c => ?_) (fun c => ?_)
  · walk_at "rd"
    exact ⟨_, rfl, S, rfl, L1, fun v m e H2 hv L2 k2 => h v _ _ H2 (.number m e) hv L2 (k1.trans k2)⟩
  walk_at "rd"
  refine r_ite (fun c => ?_) (fun c => ?_)
  · walk_at "rd"
    refine ⟨_, rfl, S, rfl, L1, fun p os H2 hp2 hl L2 k2 => ?_⟩
    walk_at "rd"
    refine ⟨by show 2 ≤ sizeLine; decide, fun q nq => ?_⟩
    exact h (.ref q) _ _ _ (.bytes os hl) (.tup upd_same (.cons (.str _) (.cons (tp_kd (same_upd nq _ _ _ hp2)) .nil))) (L2.new nq _) ((k1.trans k2).trans (Keep.of (same_upd nq _)))
  walk_at "rd"
  refine r_ite (fun c => ?_) (fun c => ?_)
  · walk_at "rd"
    refine ⟨_, rfl, S, rfl, L1, fun p os H2 hp2 hl L2 k2 => ?_⟩
    walk_at "rd"
    refine ⟨by show 2 ≤ sizeLine; decide, fun q nq => ?_⟩
    exact h (.ref q) _ _ _ (.text os hl) (.tup upd_same (.cons (.str _) (.cons (tp_kd (same_upd nq _ _ _ hp2)) .nil))) (L2.new nq _) ((k1.trans k2).trans (Keep.of (same_upd nq _)))
  walk_at "rd"
  refine ⟨by show 1 ≤ sizeLine; decide, fun q nq => ?_⟩
  exact h (.ref q) _ _ _ .null (.tup upd_same (.cons (.str _) .nil)) (L1.new nq _) (k1.trans (Keep.of (same_upd nq _)))
end

section
variable {P : Program} {w : World} {K : PySem.W.Frag} {mg : Str → Option Value} {base : Heap} {f : Addr} {fd : FuncData}
theorem ok_lf {n : Nat} {k : Str} {r : List PyData} (h : Lf k r) : (Vl.lf k r).ok n := by cases n <;> exact h
theorem vl_ref {H : Hp} {v : V} {t : Vl} (h : Tp H v t.dat) : ∃ u, v = .ref u := by
  cases t with
  | lf k r =>
    obtain ⟨a, _, e, _⟩ := tp_tup (show Tp H v (.tuple (.str k :: r)) from h)
    exact ⟨a, e⟩
  | ls xs =>
    obtain ⟨a, _, e, _⟩ := tp_tup (show Tp H v (.tuple [.str "list", .tuple (datL xs)]) from h)
    exact ⟨a, e⟩
  | mp es =>
    obtain ⟨a, _, e, _⟩ := tp_tup (show Tp H v (.tuple [.str "map", .tuple (datM es)]) from h)
    exact ⟨a, e⟩
theorem map_get {α : Type} {f : α → V} {l : List α} {i : Nat} {x : V} (h : (l.map f)[i]? = some x) : ∃ e, l[i]? = some e ∧ x = f e ∧ l.take (i + 1) = l.take i ++ [e] := by
  rw [List.getElem?_map] at h
  obtain ⟨e, h1, h2⟩ := Option.map_eq_some_iff.mp h
  refine ⟨e, h1, h2.symm, ?_⟩
  rw [List.take_succ, h1]
  rfl
theorem dpa_map {α : Type} {K : Frg} {H : Hp} {f : α → V} {g : α → PyData} : ∀ {l : List α}, (∀ e ∈ l, Dp K H (f e) (g e)) → DpAll K H (l.map f) (l.map g)
  | [], _ => .nil
  | x :: l, h => .cons (h x (List.mem_cons_self ..)) (dpa_map fun e he => h e (List.mem_cons_of_mem _ he))
theorem tpa_map {α : Type} {H : Hp} {f : α → V} {g : α → PyData} : ∀ {l : List α}, (∀ e ∈ l, Tp H (f e) (g e)) → TpAll H (l.map f) (l.map g)
  | [], _ => .nil
  | x :: l, h => .cons (h x (List.mem_cons_self ..)) (tpa_map fun e he => h e (List.mem_cons_of_mem _ he))
theorem EntAt.tk {H H' : Hp} {e : Ent} (k : Tk H H') (h : EntAt H e) : EntAt H' e := ⟨k _ _ h.1, k _ _ h.2⟩
/-- an entry and its value -/
def EvAt (H : Hp) (n : Nat) (e : Ent × Vl) : Prop := EntAt H e.1 ∧ Tp H (.ref e.1.u) e.2.dat ∧ e.2.ok n ∧ e.1.k.length ≤ 200
theorem EvAt.tk {H H' : Hp} {n : Nat} {e : Ent × Vl} (k : Tk H H') (h : EvAt H n e) : EvAt H' n e := ⟨h.1.tk k, Tp.tk k _ _ h.2.1, h.2.2⟩
theorem tpa_ents {H : Hp} {n : Nat} {zs : List (Ent × Vl)} (h : ∀ e ∈ zs, EvAt H n e) : TpAll H ((zs.map fun e => e.1).map fun e => V.ref e.t) (datM (zs.map fun e => (e.1.k, e.2))) := by
  rw [datM_map, List.map_map, List.map_map]
  exact tpa_map fun e he => .tup (h e he).1.1 (.cons (tp_kd (h e he).1.2) (.cons (h e he).2.1 .nil))
theorem ok__law_value (n : Nat) (F : FunD K "_law_value" "_law_value" (defArgs s__law_value) (defBody s__law_value) (defScope s__law_value) [] [] (glAd "_law_value" K) fd) (m : mg "_law_value" = some (.ref (glAd "_law_value" K))) (nb : Nm w K mg) (c__law_next : Cal P w K mg base 1 "_law_next" (sp__law_next K) []) (c__law_points : Cal P w K mg base 2 "_law_points" (sp__law_points K) []) (c__law_leaf : Cal P w K mg base 4 "_law_leaf" (sp__law_leaf K) []) (c__law_value : Cal P w K mg base (5 + n) "_law_value" (sp__law_value K n) []) : Cal P w K mg base (5 + n + 1) "_law_value" (sp__law_value K (n + 1)) [] := by
  refine calD F m sc__law_value (fun _ _ _ _ _ _ us hl => match us, hl with | [_, _, _, _], _ => rfl) len4 (fun cdv A outer s H vs Q E hr h => ⟨_, (pss_cons (ps_asg (pe_op op_sub (pe_ix ix_list (pv 0) pe_int (fun _ _ => rfl)) pe_int) (pg_sub (pv 0) pe_int set_list))
    (pss_cons (ps_set (i := 4) sc__law_value.nd rfl (Or.inl rfl) (pe_c c__law_next hr (by omega) rfl (pa_cons (pv 0) (pa_cons pe_int pa_nil))))
    (pss_cons (ps_if (PW.pt (pw_or (pt_cmpR op_eq (pv 1) pe_int (nomark _)) (pw_or (pt_cmpR op_le (pe_ix ix_list (pv 0) pe_int (fun _ _ => rfl)) pe_int (nomark _)) (pw_or1 (pt_cmpR op_lt (pv 4) pe_int (nomark _))))))
    (pss_one (ps_ret (pe_c c__law_leaf hr (by omega) rfl (pa_cons (pv 0) (pa_cons (pv 2) pa_nil)))))
    pss_nil)
    (pss_cons (ps_set (i := 5) sc__law_value.nd rfl (Or.inl rfl) (pe_c c__law_next hr (by omega) rfl (pa_cons (pv 0) (pa_cons pe_int pa_nil))))
    (pss_cut (ps_if (PW.pt (pw_and (pt_cmpR op_gt (pe_ix ix_list (pv 0) pe_int (fun _ _ => rfl)) pe_int (nomark _)) (pw_and1 (pt_cmpR op_eq (pe_c c__law_next hr (by omega) rfl (pa_cons (pv 0) (pa_cons pe_int pa_nil))) pe_int (nomark _)))))
    (pss_cons (ps_asg (pe_op op_sub (pe_ix ix_list (pv 0) pe_int (fun _ _ => rfl)) pe_int) (pg_sub (pv 0) pe_int set_list))
    (pss_one (ps_set (i := 5) sc__law_value.nd rfl (Or.inl rfl) (pe_op op_add pe_int (pe_c c__law_next hr (by omega) rfl (pa_cons (pv 0) (pa_cons pe_int pa_nil)))))))
    pss_nil)
    (pss_cons (ps_if (PW.pt (pw_or (pt_cmpR op_eq (pv 4) pe_int (nomark _)) (pw_or1 (pt_not (pt_val (pv 3))))))
    (pss_one (ps_ret (pe_tup (pa_cons pe_str (pa_cons (pe_callTy call_tuple_of (by rfl) nb.tuple (by decide +kernel) (pa_cons (pe_lc (own := [("k", 6)]) (g := gName 6) (tt := tYes) rfl sc__law_value.nd (pi_range1 rfl nb.range (pa_cons (pv 5) pa_nil)) (blkOk_by (N := ["state", "deep", "kinds", "has_maps", "pick", "many", "k", "entries", "key", "entry"]) (sc := defScope s__law_value) (by decide +kernel)) (fun _ _ _ _ _ => pg_name (i := 6) sc__law_value.nd rfl (Or.inl rfl)) (fun _ _ _ _ _ => pts_nil) (fun _ _ _ _ _ => (pe_c c__law_value hr (by omega) rfl (pa_cons (pv 0) (pa_cons (pe_op op_sub (pv 1) pe_int) (pa_cons (pv 2) (pa_cons (pv 3) pa_nil))))))) pa_nil)) pa_nil)))))
    pss_nil)
    (pss_cons (ps_set (i := 7) sc__law_value.nd rfl (Or.inl rfl) (pe_lst pa_nil))
    (pss_cons (ps_for PassesOwn.never rfl (pi_range1 rfl nb.range (pa_cons (pv 5) pa_nil)) (pg_name (i := 6) sc__law_value.nd rfl (Or.inl rfl))
    (pss_cons (ps_set (i := 8) sc__law_value.nd rfl (Or.inl rfl) (pe_c c__law_points hr (by omega) rfl (pa_cons (pv 0) pa_nil)))
    (pss_one (ps_if (pt_cmpR (op_notInD (hu65 hr)) (pv 8) (pe_lc (own := [("entry", 9)]) (g := gName 9) (tt := tYes) rfl sc__law_value.nd (pi_list (pv 7)) (blkOk_by (N := ["state", "deep", "kinds", "has_maps", "pick", "many", "k", "entries", "key", "entry"]) (sc := defScope s__law_value) (by decide +kernel)) (fun _ _ _ _ _ => pg_name (i := 9) sc__law_value.nd rfl (Or.inl rfl)) (fun _ _ _ _ _ => pts_nil) (fun _ _ _ _ _ => (pe_ix (show IxR _ (rIxT K) from ix_tup) (pv 9) pe_int (fun _ _ => rfl)))) rfl)
    (pss_one (ps_expr (pe_bm PySem.F.plainAttrs_list PySem.F.slot_list_append PySem.F.type_list_append mt_append (pv 7) (pa_cons (pe_tup (pa_cons (pv 8) (pa_cons (pe_c c__law_value hr (by omega) rfl (pa_cons (pv 0) (pa_cons (pe_op op_sub (pv 1) pe_int) (pa_cons (pv 2) (pa_cons (pv 3) pa_nil))))) pa_nil))) pa_nil))))
    pss_nil))))
    (pss_one (ps_ret (pe_tup (pa_cons pe_str (pa_cons (pe_callTy call_tuple_of (by rfl) nb.tuple (by decide +kernel) (pa_cons (pe_callB (cr_sortedE hr.units) (by rfl) nb.sorted (by decide +kernel) (pa_cons (pv 7) pa_nil)) pa_nil)) pa_nil))))))))))))), ?_⟩)
  obtain ⟨_, _, _, _, rfl, S, p, kinds, hm, deep, rfl, rfl, hd, rfl, rfl, L, pS, hp, hne, h⟩ := h
  obtain ⟨k0, l, f5, e⟩ := L.st
  walk_at "rd"
  refine r_ixL (SqL.of e) rfl ?_
  walk_at "rd"
  refine r_setL e rfl ?_
  walk_at "rd"
  have L1 := L.put k0 (l - 1) f5
  have kk1 : Keep S H (upd H S.a (.lst [.ref S.nl, .int k0, .int (l - 1), .ref S.sl, .int f5])) := Keep.put _
  have hp1 := kk1 _ _ pS hp
  have e1 : (upd H S.a (.lst [.ref S.nl, .int k0, .int (l - 1), .ref S.sl, .int f5])) S.a = some (.lst [.ref S.nl, .int k0, .int (l - 1), .ref S.sl, .int f5]) := upd_same
  have e1 : (upd H S.a (.lst [V.ref S.nl, .int k0, .ref S.nl, .ref S.sl, .int f5])) S.a = some (.lst [.ref S.nl, .int k0, .ref S.nl, .ref S.sl, .int f5]) := upd_same
  clear e1
  refine d_next L1 (by decide) fun pick H2 a2 b2 L2 k2 => ?_
  have hp2 := k2 _ _ pS hp1
  have k2 := kk1.trans k2
  clear L1 kk1 hp1
  obtain ⟨k0', l', f5', e2⟩ := L2.st
  walk_at "ri"
  refine r_ifB (decide (deep = 0 ∨ l' ≤ 0 ∨ pick < 2)) ?_ ?_
  · intro R hR
    walk_at "rd"
    refine r_ite (fun c => ?_) (fun c => ?_)
    · walk_at "rd"
      rw [decide_eq_true (.inl (by omega))] at hR
      exact hR
    walk_at "rd"
    refine r_ixL (SqL.of e2) rfl ?_
    walk_at "rd"
    refine r_ite (fun c2 => ?_) (fun c2 => ?_)
    · walk_at "rd"
      rw [decide_eq_true (.inr (.inl c2))] at hR
      exact hR
    walk_at "rd"
    have ed : decide (pick < 2) = decide (deep = 0 ∨ l' ≤ 0 ∨ pick < 2) := decide_eq_decide.mpr ⟨fun q => .inr (.inr q), fun q => by omega⟩
    rw [ed]
    exact hR
  refine r_ite (fun c => ?_) (fun c => ?_)
  · walk_at "rd"
    exact ⟨_, _, rfl, S, p, kinds, rfl, rfl, L2, pS, hp2, hne, fun v k r H3 hl hv L3 k3 => h v (.lf k r) H3 (ok_lf hl) hv L3 (k2.trans k3)⟩
  obtain ⟨deep, rfl⟩ : ∃ d, deep = d + 1 := ⟨deep - 1, by omega⟩
  have ed : ((deep + 1 : Nat) : Int) - 1 = ((deep : Nat) : Int) := by omega
  walk_at "rd"
  refine d_next L2 (by decide) fun m0 H3 a3 b3 L3 k3 => ?_
  have hp3 := k3 _ _ pS hp2
  have k3 := k2.trans k3
  clear L2 k2 hp2 e2
  walk_at "rd"
  refine r_cut (fun σ H' => LS K S H' ∧ Keep S H H' ∧ ∃ (m : Int), 0 ≤ m ∧ m ≤ 49 ∧ σ = [some (.ref S.a), some (.int (deep + 1 : Nat)), some (.ref p), some (.bl hm), some (.int pick), some (.int m), none, none, none, none]) ?_ ?_
  · walk_at "rd"
    obtain ⟨kk, l, f5, e⟩ := L3.st
    refine r_ixL (SqL.of e) rfl ?_
    walk_at "rd"
    refine r_ite (fun c => ?_) (fun c => ?_)
    · walk_at "rd"
      refine d_next L3 (by decide) fun r4 H4 a4 b4 L4 k4 => ?_
      have k4 := k3.trans k4
      walk_at "rd"
      refine r_ite (fun c => ?_) (fun c => ?_)
      · walk_at "rd"
        obtain ⟨kk, l, f5, e⟩ := L4.st
        refine r_ixL (SqL.of e) rfl ?_
        walk_at "rd"
        refine r_setL e rfl ?_
        walk_at "rd"
        have L5 := L4.put kk l (f5 - 1)
        have k5 := k4.trans (Keep.put (H := H4) (.lst [.ref S.nl, .int kk, .int l, .ref S.sl, .int (f5 - 1)]))
        refine d_next L5 (by decide) fun r6 H6 a6 b6 L6 k6 => ?_
        walk_at "rd"
        exact ⟨L6, k5.trans k6, _, by omega, by omega, rfl⟩
      · walk_at "rd"
        exact ⟨L4, k4, _, a3, by omega, rfl⟩
    · walk_at "rd"
      exact ⟨L3, k3, _, a3, by omega, rfl⟩
  rintro σ H4 ⟨L4, k4, m, hm0, hm1, rfl⟩
  have hp4 := k4 _ _ pS hp
  clear L3 k3 hp3
  walk_at "ri"
  refine r_ifB (decide (pick = 2) || !hm) ?_ ?_
  · intro R hR
    walk_at "rd"
    refine r_ite (fun c => ?_) (fun c => ?_)
    · rw [decide_eq_true c] at hR
      walk_at "rd"
      exact hR
    · rw [decide_eq_false c] at hR
      walk_at "rd"
      exact hR
  refine r_ifTF (fun _ => ?_) (fun _ => ?_)
  · walk_at "rd"
    refine ⟨by omega, by omega, fun D nD => ?_⟩
    have DS := L4.ne_free nD
    have nD0 : H D = none := k4.free L4 nD
    refine lc_range (fun i H' => LS K S H' ∧ Keep S H H' ∧ ∃ (vs : List V) (ts : List Vl), ts.length = i ∧ vokL deep ts ∧ TpAll H' vs (datL ts) ∧ H' D = some (.lst vs)) ⟨L4.new nD _, k4.trans (Keep.of (same_upd nD _)), [], [], rfl, trivial, .nil, upd_same⟩ ?_ ?_
    · rintro i H5 hi ⟨L5, k5, vs, ts, e1, e2, e3, e4⟩
      walk_at "rd"
      refine ⟨rfl, ?_⟩
      walk_at "rd"
      refine ⟨_, _, _, _, rfl, S, p, kinds, hm, deep, rfl, congrArg V.int ed, by omega, rfl, rfl, L5, pS, k5 _ _ pS hp, hne, fun v t H6 ok tp L6 k6 => ?_⟩
      have hD6 := k6 _ _ DS e4
      have hl : vs.length = i := by rw [tpAll_len e3, datL_map, List.length_map, e1]
      have tk6 := (keep_tk L5 k6).trans (tk_put (o := .lst (vs ++ [v])) hD6)
      refine ⟨vs, hD6, small1000 (by omega), L4.away nD L6 _, keep_away (k5.trans k6) nD0, vs ++ [v], ts ++ [t], by rw [List.length_append, e1]; rfl, vokL_app e2 ⟨ok, trivial⟩, ?_, upd_same⟩
      rw [datL_app]
      exact tpAll_app (TpAll.tk tk6 _ _ e3) (.cons (Tp.tk (tk_put hD6) _ _ tp) .nil)
    · rintro H5 ⟨L5, k5, vs, ts, e1, e2, e3, e4⟩
      walk_at "rd"
      refine ⟨D, _, rfl, .inl ⟨SqL.of e4, fun t nt => ?_⟩⟩
      walk_at "rd"
      refine ⟨by show 2 ≤ sizeLine; decide, fun q nq => ?_⟩
      have s7 := (same_upd nt (.tup vs)).trans (same_upd nq (.tup [.str "list", .ref t]))
      refine h (.ref q) (.ls ts) _ ⟨by omega, e2⟩ (.tup upd_same (.cons (.str _) (.cons (.tup (same_upd nq _ _ _ upd_same) (TpAll.tk (Same.tk s7) _ _ e3)) .nil))) (L5.same s7) (k5.trans (Keep.of s7))
  · walk_at "rd"
    refine ⟨Nat.zero_le _, fun D nD => ?_⟩
    have DS := L4.ne_free nD
    have nD0 : H D = none := k4.free L4 nD
    walk_at "rd"
    refine r_turns (by omega) (by omega) (fun i σ H' => LS K S H' ∧ Keep S H H' ∧ ∃ (es : List (Ent × Vl)) (y6 y8 y9 : Option V), es.length ≤ i ∧ (∀ e ∈ es, EvAt H' deep e) ∧ (es.map (·.1.k)).Nodup ∧ H' D = some (.lst (es.map fun e => V.ref e.1.t)) ∧ σ = [some (.ref S.a), some (.int (deep + 1 : Nat)), some (.ref p), some (.bl hm), some (.int pick), some (.int m), y6, some (.ref D), y8, y9])
      ⟨L4.new nD _, k4.trans (Keep.of (same_upd nD _)), [], _, _, _, Nat.le_refl _, fun _ h => absurd h (by simp), List.nodup_nil, upd_same, rfl⟩ ?_ ?_
    · rintro i σ H5 hi ⟨L5, k5, es, y6, y8, y9, e1, e2, e3, e4, rfl⟩
      walk_at "rd"
      refine ⟨_, rfl, S, rfl, L5, fun q ps H6 hq hpl L6 k6 => ?_⟩
      have hD6 := k6 _ _ DS e4
      have e2 : ∀ e ∈ es, EvAt H6 deep e := fun e he => (e2 e he).tk (keep_tk L5 k6)
      have k6 := k5.trans k6
      clear L5 k5 e4
      walk_at "rd"
      refine ⟨D, rfl, ⟨_, SqL.of hD6⟩, fun D2 nD2 => ?_⟩
      refine lc_list (xs := es.map fun e => V.ref e.1.t) (fun j H' => Same H6 H' ∧ H' D2 = some (.lst ((es.take j).map fun e => V.ref e.1.q))) ⟨same_upd nD2 _, upd_same⟩ (fun j H' _ hh => SqL.of (hh.1 _ _ hD6)) ?_ ?_
      · rintro j x H7 hx ⟨s7, g7⟩
        obtain ⟨en, hj, rfl, et⟩ := map_get hx
        walk_at "rd"
        refine ⟨rfl, ?_⟩
        walk_at "rd"
        refine r_ixT (SqT.of (s7 _ _ (e2 en (List.mem_of_getElem? hj)).1.1)) rfl ?_
        refine ⟨_, g7, small1000 (by rw [List.length_map, List.length_take]; omega), same_away s7 nD2, ?_⟩
        rw [upd_same, et, List.map_append]
        rfl
      rintro H7 ⟨s7, g7⟩
      rw [List.length_map, List.take_length] at g7
      have L7 := L6.same s7
      have k7 := k6.trans (Keep.of s7)
      have hD7 := s7 _ _ hD6
      have hq7 := s7 _ _ hq
      have e2 : ∀ e ∈ es, EvAt H7 deep e := fun e he => (e2 e he).tk (Same.tk s7)
      clear L6 k6 hD6 hq s7
      refine ⟨kd ps, (es.map (·.1.k)).map kd, Tp.dp _ _ (tp_kd hq7), .lst (SqL.of g7) ?_, shaped_kd ps, shaped_kds _, ?_⟩
      · rw [List.map_map]
        exact dpa_map fun e he => Tp.dp _ _ (tp_kd (e2 e he).1.2)
      rw [eqv_kds]
      refine r_bl (r_iten (fun c => ?_) (fun c => ?_))
      · walk_at "rd"
        refine ⟨tyL hD7, ?_⟩
        walk_at "rd"
        refine ⟨_, _, _, _, rfl, S, p, kinds, hm, deep, rfl, congrArg V.int ed, by omega, rfl, rfl, L7, pS, k7 _ _ pS hp, hne, fun v t H8 ok tp L8 k8 => ?_⟩
        obtain ⟨u, rfl⟩ := vl_ref tp
        have tk8 := keep_tk L7 k8
        have hD8 := k8 _ _ DS hD7
        walk_at "rd"
        refine ⟨by show 2 ≤ sizeLine; decide, fun T nT => ?_⟩
        have s9 := same_upd nT (.tup [.ref q, .ref u])
        have hD9 := s9 _ _ hD8
        have L9 := L8.new nT (.tup [.ref q, .ref u])
        walk_at "rd"
        refine r_app hD9 (small1000 (by rw [List.length_map]; omega)) ?_
        have tk9 := (Same.tk s9).trans (tk_put (o := .lst ((es.map fun e => V.ref e.1.t) ++ [.ref T])) hD9)
        refine ⟨L4.away nD L9 _, keep_away ((k7.trans k8).trans (Keep.of s9)) nD0, es ++ [(⟨T, q, u, ps⟩, t)], _, _, _, by rw [List.length_append]; show es.length + 1 ≤ i + 1; omega, fun e he => ?_, ?_, ?_, rfl⟩
        · rcases List.mem_append.mp he with q1 | q1
          · exact (e2 e q1).tk (tk8.trans tk9)
          · have e5 : e = (⟨T, q, u, ps⟩, t) := by simpa using q1
            subst e5
            exact ⟨⟨tk_put hD9 _ _ upd_same, tk9 _ _ (tk8 _ _ hq7)⟩, Tp.tk tk9 _ _ tp, ok, hpl⟩
        · rw [List.map_append, List.nodup_append]
          refine ⟨e3, by simp, ?_⟩
          intro a ha b hb
          have eb : b = ps := by simpa using hb
          rw [eb]
          exact fun z => c (z ▸ ha)
        · rw [upd_same, List.map_append]
          rfl
      · walk_at "rd"
        exact ⟨L7, k7, es, _, _, _, by omega, e2, e3, hD7, rfl⟩
    · rintro σ H5 ⟨L5, k5, es, y6, y8, y9, e1, e2, e3, e4, rfl⟩
      walk_at "rd"
      refine ⟨D, es.map (·.1), rfl, ?_, fun e he => ?_, ?_, fun es' l' pe srt nl => ?_⟩
      · rw [List.map_map]
        exact SqL.of e4
      · obtain ⟨x, hx, rfl⟩ := List.mem_map.mp he
        exact (e2 x hx).1
      · rw [List.map_map]
        exact e3
      obtain ⟨zs, pz, rfl⟩ := perm_up (fun e : Ent × Vl => e.1) pe
      walk_at "rd"
      refine ⟨l', _, rfl, .inl ⟨SqL.of upd_same, fun t nt => ?_⟩⟩
      walk_at "rd"
      refine ⟨by show 2 ≤ sizeLine; decide, fun q nq => ?_⟩
      have s7 := ((same_upd nl (.lst ((zs.map fun e => e.1).map fun e => V.ref e.t))).trans (same_upd nt (.tup ((zs.map fun e => e.1).map fun e => V.ref e.t)))).trans (same_upd nq (.tup [.str "map", .ref t]))
      have e7 : ∀ e ∈ zs, EvAt _ deep e := fun e he => (e2 e (pz.mem_iff.mp he)).tk (Same.tk s7)
      refine h (.ref q) (.mp (zs.map fun e => (e.1.k, e.2))) _ ⟨?_, ?_, ?_, ?_⟩ (.tup upd_same (.cons (.str _) (.cons (.tup (same_upd nq _ _ _ upd_same) ?_) .nil))) (L5.same s7) (k5.trans (Keep.of s7))
      · rw [List.length_map, pz.length_eq]
        omega
      · rw [List.map_map] at srt ⊢
        exact srt
      · intro e he
        obtain ⟨x, hx, rfl⟩ := List.mem_map.mp he
        exact (e7 x hx).2.2.2
      · refine vokM_of fun e he => ?_
        obtain ⟨x, hx, rfl⟩ := List.mem_map.mp he
        exact (e7 x hx).2.2.1
      · exact tpa_ents e7
theorem rec__law_value (F : FunD K "_law_value" "_law_value" (defArgs s__law_value) (defBody s__law_value) (defScope s__law_value) [] [] (glAd "_law_value" K) fd) (m : mg "_law_value" = some (.ref (glAd "_law_value" K))) (nb : Nm w K mg) (c__law_next : Cal P w K mg base 1 "_law_next" (sp__law_next K) []) (c__law_points : Cal P w K mg base 2 "_law_points" (sp__law_points K) []) (c__law_leaf : Cal P w K mg base 4 "_law_leaf" (sp__law_leaf K) []) : ∀ n, Cal P w K mg base (5 + n) "_law_value" (sp__law_value K n) []
  | 0 => calD (k := 4) F m sc__law_value (fun _ _ _ _ _ _ us hl => match us, hl with | [_, _, _, _], _ => rfl) (fun _ _ _ _ h => (no__law_value h).elim) (fun _ _ _ _ _ _ _ _ _ h => (no__law_value h).elim)
  | n + 1 => ok__law_value n F m nb c__law_next c__law_points c__law_leaf (rec__law_value F m nb c__law_next c__law_points c__law_leaf n)
end

/-! ### the law's changes of a thing -/
mutual
def wdD (n : Nat) : PyData → Prop
  | .tuple ds => ds.length ≤ n ∧ wdL n ds
  | .str x => PyData.strOk x = true
  | .none => True
  | .bool _ => True
  | .int _ => True
  | .list _ => False
  | .dict _ => False
def wdL (n : Nat) : List PyData → Prop
  | [] => True
  | d :: ds => wdD n d ∧ wdL n ds
end
mutual
theorem tp_tg {H : Hp} {z : Addr} {n : Nat} : ∀ (d : PyData) (v : V), wdD n d → Tp H v d → Tg H z n v d
  | .none, _, _, h => by cases h; exact .non
  | .bool b, _, _, h => by cases h; exact .bl b
  | .int i, _, _, h => by cases h; exact .int i
  | .str x, _, w, h => by cases h; exact .str x w
  | .tuple ds, _, w, h => by
    cases h with
    | tup h1 h2 => exact .tup h1 (by rw [tpAll_len h2]; exact w.1) (tpL_tg ds _ w.2 h2)
  | .list ds, _, w, h => by cases h
  | .dict ds, _, w, h => by cases h
theorem tpL_tg {H : Hp} {z : Addr} {n : Nat} : ∀ (ds : List PyData) (vs : List V), wdL n ds → TpAll H vs ds → TgAll H z n vs ds
  | [], _, _, h => by cases h; exact .nil
  | d :: ds, _, w, h => by
    cases h with
    | cons h1 h2 => exact .cons (tp_tg d _ w.1 h1) (tpL_tg ds _ w.2 h2)
end
theorem wd_ints {n : Nat} : ∀ (ns : List Int), wdL n (ns.map PyData.int)
  | [] => trivial
  | _ :: ns => ⟨trivial, wd_ints ns⟩
theorem wd_kd {n : Nat} {ns : List Int} (h : ns.length ≤ n) : wdD n (kd ns) := ⟨by rw [List.length_map]; exact h, wd_ints ns⟩
theorem wds {n : Nat} {x : Str} (h : PyData.strOk x = true) : wdD n (.str x) := h
theorem wd_lf {k : Str} {r : List PyData} (h : Lf k r) : wdD 300 (.tuple (.str k :: r)) := by
  cases h with
  | null => exact ⟨by decide, wds (by decide +kernel), trivial⟩
  | truth b => exact ⟨by show 2 ≤ _; decide, wds (by decide +kernel), trivial, trivial⟩
  | number m e => exact ⟨by show 3 ≤ _; decide, wds (by decide +kernel), trivial, trivial, trivial⟩
  | bytes os h => exact ⟨by show 2 ≤ _; decide, wds (by decide +kernel), wd_kd h, trivial⟩
  | text ps h => exact ⟨by show 2 ≤ _; decide, wds (by decide +kernel), wd_kd (Nat.le_trans h (by decide)), trivial⟩
mutual
theorem vl_wd : ∀ (n : Nat) (t : Vl), t.ok n → wdD 300 t.dat
  | 0, .lf k r, h => wd_lf h
  | n + 1, .lf k r, h => wd_lf h
  | 0, .ls xs, h => h.elim
  | n + 1, .ls xs, h => ⟨by show 2 ≤ _; decide, wds (by decide +kernel), ⟨by rw [datL_map, List.length_map]; have := h.1; omega, vlL_wd n xs h.2⟩, trivial⟩
  | 0, .mp es, h => h.elim
  | n + 1, .mp es, h => ⟨by show 2 ≤ _; decide, wds (by decide +kernel), ⟨by rw [datM_map, List.length_map]; have := h.1; omega, vlM_wd n es h.2.2.1 h.2.2.2⟩, trivial⟩
theorem vlL_wd : ∀ (n : Nat) (xs : List Vl), vokL n xs → wdL 300 (datL xs)
  | _, [], _ => trivial
  | n, x :: xs, h => ⟨vl_wd n x h.1, vlL_wd n xs h.2⟩
theorem vlM_wd : ∀ (n : Nat) (es : List (List Int × Vl)), (∀ e ∈ es, e.1.length ≤ 200) → vokM n es → wdL 300 (datM es)
  | _, [], _, _ => trivial
  | n, (k, v) :: es, hk, h => ⟨⟨by show 2 ≤ _; decide, wd_kd (Nat.le_trans (hk _ (List.mem_cons_self ..)) (by decide)), vl_wd n v h.1, trivial⟩, vlM_wd n es (fun e he => hk e (List.mem_cons_of_mem _ he)) h.2⟩
end
theorem keep_btz {S : SC} {H H' : Hp} (k : Keep S H H') : Btz S.a H H' := k
theorem LS.noTup {K : Frg} {S : SC} {H : Hp} (L : LS K S H) : NoTup H S.a := by
  obtain ⟨k, l, f, e⟩ := L.st
  exact noTup_lst e
theorem Tg.kp {K : Frg} {S : SC} {H H' : Hp} {n : Nat} {v : V} {d : PyData} (L : LS K S H) (k : Keep S H H') (t : Tg H S.a n v d) : Tg H' S.a n v d := t.btz L.noTup k
section
variable {K : Frg} {H : Hp} {z : Addr} {n : Nat} {Q : VK}
theorem r_slTake {a : Addr} {xs : List V} {ds : List PyData} {i : Nat} (ha : H a = some (.tup xs)) (r : TgAll H z n xs ds) (hi : i ≤ xs.length) (h : ∀ (p : Addr) (H' : Hp), H' p = some (.tup (xs.take i)) → TgAll H' z n (xs.take i) (ds.take i) → Same H H' → Q (.ref p) H') : rSlA K (.ref a) none (some (i : Nat)) H Q := by
  refine ⟨a, xs, rfl, SqT.of ha, fun hw => ?_, fun _ p hp => ?_⟩
  · obtain ⟨_, w2⟩ := hw
    rw [HT.sIx_nat] at w2
    have e : xs.take i = xs := List.take_of_length_le (by omega)
    have := h a H (by rw [e]; exact ha) (tgAll_take r i) (Same.refl H)
    exact this
  · have e : cutV xs none (some (i : Nat)) = xs.take i := by
      unfold cutV
      rw [HT.sIx_nat, HT.sIx_none, List.drop_zero, Nat.sub_zero, Nat.min_eq_left hi]
    have s := same_upd hp (.tup (cutV xs none (some (i : Nat))))
    exact h p _ (by rw [upd_same, e]) ((tgAll_take r i).same s) s
theorem r_slDrop {a : Addr} {xs : List V} {ds : List PyData} {i : Nat} (ha : H a = some (.tup xs)) (r : TgAll H z n xs ds) (hi : i ≤ xs.length) (h : ∀ (p : Addr) (H' : Hp), H' p = some (.tup (xs.drop i)) → TgAll H' z n (xs.drop i) (ds.drop i) → Same H H' → Q (.ref p) H') : rSlA K (.ref a) (some (i : Nat)) none H Q := by
  refine ⟨a, xs, rfl, SqT.of ha, fun hw => ?_, fun _ p hp => ?_⟩
  · obtain ⟨w1, _⟩ := hw
    rw [HT.sIx_nat] at w1
    have e0 : i = 0 ∨ xs = [] := by
      by_cases c : i = 0
      · exact .inl c
      · refine .inr (List.length_eq_zero_iff.mp (by omega))
    have e : xs.drop i = xs := by
      rcases e0 with q | q
      · rw [q]; rfl
      · rw [q]; simp
    exact h a H (by rw [e]; exact ha) (tgAll_drop r i) (Same.refl H)
  · have e : cutV xs (some (i : Nat)) none = xs.drop i := by
      unfold cutV
      rw [HT.sIx_nat, HT.sIx_none, Nat.min_eq_left hi, List.take_of_length_le (by rw [List.length_drop]; exact Nat.le_refl _)]
    have s := same_upd hp (.tup (cutV xs (some (i : Nat)) none))
    exact h p _ (by rw [upd_same, e]) ((tgAll_drop r i).same s) s
theorem r_catT {a b : Addr} {xs ys : List V} (ha : H a = some (.tup xs)) (hb : H b = some (.tup ys)) (hl : xs.length + ys.length ≤ 4000) (h : ∀ (p : Addr) (H' : Hp), H' p = some (.tup (xs ++ ys)) → Same H H' → Q (.ref p) H') : rCatA K (.ref a) (.ref b) H Q := by
  refine ⟨a, b, xs, ys, rfl, rfl, SqT.of ha, SqT.of hb, Nat.le_of_lt (small4k hl), fun q => ?_, fun _ q => ?_, fun _ _ p hp => h p _ upd_same (same_upd hp _)⟩
  · subst q
    exact h b H hb (Same.refl H)
  · subst q
    exact h a H (by rw [List.append_nil]; exact ha) (Same.refl H)
end
abbrev s__law_around : Stmt := (top 32)
theorem sc__law_around : FnScope ["state", "thing", "many", "k", "pick"] ["state", "thing", "many"] (defScope s__law_around) := ⟨rfl, rfl, rfl, by decide +kernel, rfl, by decide +kernel, by decide +kernel⟩
abbrev s__law_odd : Stmt := (top 33)
theorem sc__law_odd : FnScope ["state", "thing", "words", "numbers", "things"] ["state", "thing"] (defScope s__law_odd) := ⟨rfl, rfl, rfl, by decide +kernel, rfl, by decide +kernel, by decide +kernel⟩
def sp__law_around (K : Frg) : Sp := sp3 fun a b c H Q _ => ∃ S n d k, a = .ref S.a ∧ LS K S H ∧ Tg H S.a n b d ∧ 3 ≤ n ∧ c = .int k ∧ -100 ≤ k ∧ k ≤ 100 ∧ ∀ (v : V) (d : PyData) (H' : Hp), Tg H' S.a n v d → LS K S H' → Keep S H H' → Q v H'
def sp__law_odd (K : Frg) : Sp := sp2 fun a b H Q _ => ∃ S n d, a = .ref S.a ∧ LS K S H ∧ Tg H S.a n b d ∧ 3 ≤ n ∧ ∀ (v : V) (d : PyData) (H' : Hp), Tg H' S.a n v d → LS K S H' → Keep S H H' → Q v H'
theorem tp2 {H : Hp} {z : Addr} {n : Nat} {a : Addr} {u v : V} {d e : PyData} (hn : 3 ≤ n) (g : H a = some (.tup [u, v])) (t1 : Tg H z n u d) (t2 : Tg H z n v e) : Tg H z n (.ref a) (.tuple [d, e]) := .tup g (by show 2 ≤ n; omega) (.cons t1 (.cons t2 .nil))
theorem tp1 {H : Hp} {z : Addr} {n : Nat} {a : Addr} {u : V} {d : PyData} (hn : 3 ≤ n) (g : H a = some (.tup [u])) (t1 : Tg H z n u d) : Tg H z n (.ref a) (.tuple [d]) := .tup g (by show 1 ≤ n; omega) (.cons t1 .nil)
theorem tp3 {H : Hp} {z : Addr} {n : Nat} {a : Addr} {u v w : V} {d e f : PyData} (hn : 3 ≤ n) (g : H a = some (.tup [u, v, w])) (t1 : Tg H z n u d) (t2 : Tg H z n v e) (t3 : Tg H z n w f) : Tg H z n (.ref a) (.tuple [d, e, f]) := .tup g (by show 3 ≤ n; omega) (.cons t1 (.cons t2 (.cons t3 .nil)))
theorem r_ixA {K : Frg} {H : Hp} {p : Addr} {xs : List V} {i : Nat} {Q : VK} (hs : SqL K H p xs) (hi : i < xs.length) (h : ∀ x, x ∈ xs → Q x H) : rIxL K (.ref p) (.int (i : Int)) H Q :=
  ⟨p, xs, i, xs[i], rfl, rfl, hs, atI_nat (List.getElem?_eq_getElem hi), h _ (List.getElem_mem hi)⟩
theorem new_tg {K : Frg} {S : SC} {H : Hp} {p : Addr} {o : HO} (L : LS K S H) (hp : H p = none) : ∃ H', upd H p o = H' ∧ LS K S H' ∧ Same H H' ∧ H' p = some o := ⟨_, rfl, L.new hp o, same_upd hp o, upd_same⟩
section
variable {P : Program} {w : World} {K : PySem.W.Frag} {mg : Str → Option Value} {base : Heap} {f : Addr} {fd : FuncData}
theorem ok__law_around (F : FunD K "_law_around" "_law_around" (defArgs s__law_around) (defBody s__law_around) (defScope s__law_around) [] [] (glAd "_law_around" K) fd) (m : mg "_law_around" = some (.ref (glAd "_law_around" K))) (nb : Nm w K mg) (c__law_next : Cal P w K mg base 1 "_law_next" (sp__law_next K) []) : Cal P w K mg base 2 "_law_around" (sp__law_around K) [] := by
  refine calD F m sc__law_around (fun _ _ _ _ _ _ us hl => match us, hl with | [_, _, _], _ => rfl) len3 (fun cdv A outer s H vs Q E hr h => ⟨_, (pss_cons (ps_for PassesOwn.never rfl (pi_range1 rfl nb.range (pa_cons (pv 2) pa_nil)) (pg_name (i := 3) sc__law_around.nd rfl (Or.inl rfl))
    (pss_cons (ps_set (i := 4) sc__law_around.nd rfl (Or.inl rfl) (pe_c c__law_next hr (by decide) rfl (pa_cons (pv 0) (pa_cons pe_int pa_nil))))
    (pss_one (ps_if (pt_cmpR op_eq (pv 4) pe_int (nomark _))
    (pss_one (ps_set (i := 1) sc__law_around.nd rfl (Or.inl rfl) (pe_tup (pa_cons pe_str (pa_cons (pe_tup (pa_cons (pv 1) pa_nil)) pa_nil)))))
    (pss_one (ps_if (pt_cmpR op_eq (pv 4) pe_int (nomark _))
    (pss_one (ps_set (i := 1) sc__law_around.nd rfl (Or.inl rfl) (pe_tup (pa_cons pe_str (pa_cons (pe_tup (pa_cons (pe_tup (pa_cons pe_str (pa_cons (pe_tup (pa_cons pe_int pa_nil)) pa_nil))) (pa_cons (pv 1) (pa_cons (pe_tup (pa_cons pe_str pa_nil)) pa_nil)))) pa_nil)))))
    (pss_one (ps_if (pt_cmpR op_eq (pv 4) pe_int (nomark _))
    (pss_one (ps_set (i := 1) sc__law_around.nd rfl (Or.inl rfl) (pe_tup (pa_cons pe_str (pa_cons (pe_tup (pa_cons (pe_tup (pa_cons (pe_tup (pa_cons pe_int pa_nil)) (pa_cons (pv 1) pa_nil))) pa_nil)) pa_nil)))))
    (pss_one (ps_set (i := 1) sc__law_around.nd rfl (Or.inl rfl) (pe_tup (pa_cons pe_str (pa_cons (pe_tup (pa_cons (pe_tup (pa_cons (pe_tup (pa_cons pe_int pa_nil)) (pa_cons (pe_tup (pa_cons pe_str (pa_cons pe_int (pa_cons pe_int pa_nil)))) pa_nil))) (pa_cons (pe_tup (pa_cons (pe_tup (pa_cons pe_int (pa_cons pe_int pa_nil))) (pa_cons (pv 1) pa_nil))) (pa_cons (pe_tup (pa_cons (pe_tup (pa_cons pe_int pa_nil)) (pa_cons (pe_tup (pa_cons pe_str pa_nil)) pa_nil))) pa_nil)))) pa_nil)))))))))))))
    (pss_one (ps_ret (pv 1)))), ?_⟩)
  obtain ⟨_, v, _, rfl, S, n, d, k, rfl, L, t, hn, rfl, hk0, hk, h⟩ := h
  walk_at "rd"
  refine r_turns (by omega) (by omega) (fun i σ H' => ∃ (v : V) (d : PyData) (y3 y4 : Option V), σ = [some (.ref S.a), some v, some (.int k), y3, y4] ∧ Tg H' S.a n v d ∧ LS K S H' ∧ Keep S H H') ⟨v, d, none, none, rfl, t, L, Keep.refl S H⟩ ?_ ?_
  · rintro i σ H1 hi ⟨v, d, y3, y4, rfl, t, L, k1⟩
    walk_at "rd"
    refine d_next L (by decide) fun r H2 a2 b2 L2 k2 => ?_
    have t := t.kp L k2
    have k2 := k1.trans k2
    walk_at "rd"
    refine r_ite (fun c => ?_) (fun c => ?_)
    · walk_at "rd"
      refine ⟨by show 1 ≤ sizeLine; decide, fun p3 n3 => ?_⟩
      obtain ⟨H3, e, L3, s3, g3⟩ := new_tg (o := .tup [v]) L2 n3
      rw [e]
      clear e
      walk_at "rd"
      refine ⟨by show 2 ≤ sizeLine; decide, fun p4 n4 => ?_⟩
      obtain ⟨H4, e, L4, s4, g4⟩ := new_tg (o := .tup [.str "list", .ref p3]) L3 n4
      rw [e]
      clear e
      walk_at "rd"
      have t := t.same (s3.trans s4)
      exact ⟨_, _, _, _, rfl, .tup g4 (by show 2 ≤ n; omega) (.cons (.str _ (by decide +kernel)) (.cons (.tup (s4 _ _ g3) (by show 1 ≤ n; omega) (.cons t .nil)) .nil)), L4, k2.trans (Keep.of (s3.trans s4))⟩
    walk_at "rd"
    refine r_ite (fun c => ?_) (fun c => ?_)
    · walk_at "rd"
      refine ⟨by show 1 ≤ sizeLine; decide, fun p3 n3 => ?_⟩
      obtain ⟨H3, e, L3, s3, g3⟩ := new_tg (o := .tup [.int 97]) L2 n3
      rw [e]
      clear e
      walk_at "rd"
      refine ⟨by show 2 ≤ sizeLine; decide, fun p4 n4 => ?_⟩
      obtain ⟨H4, e, L4, s4, g4⟩ := new_tg (o := .tup [.str "text", .ref p3]) L3 n4
      rw [e]
      clear e
      walk_at "rd"
      refine ⟨by show 1 ≤ sizeLine; decide, fun p5 n5 => ?_⟩
      obtain ⟨H5, e, L5, s5, g5⟩ := new_tg (o := .tup [.str "null"]) L4 n5
      rw [e]
      clear e
      walk_at "rd"
      refine ⟨by show 3 ≤ sizeLine; decide, fun p6 n6 => ?_⟩
      obtain ⟨H6, e, L6, s6, g6⟩ := new_tg (o := .tup [.ref p4, v, .ref p5]) L5 n6
      rw [e]
      clear e
      walk_at "rd"
      refine ⟨by show 2 ≤ sizeLine; decide, fun p7 n7 => ?_⟩
      obtain ⟨H7, e, L7, s7, g7⟩ := new_tg (o := .tup [.str "list", .ref p6]) L6 n7
      rw [e]
      clear e
      walk_at "rd"
      have t := t.same (((s3.trans s4).trans (s5.trans s6)).trans s7)
      have q3 : Tg H7 S.a n (.ref p3) _ := tp1 hn ((((s4.trans s5).trans (s6.trans s7))) _ _ g3) (.int 97)
      have q4 : Tg H7 S.a n (.ref p4) _ := tp2 hn ((s5.trans (s6.trans s7)) _ _ g4) (.str _ (by decide +kernel)) q3
      have q5 : Tg H7 S.a n (.ref p5) _ := tp1 hn ((s6.trans s7) _ _ g5) (.str _ (by decide +kernel))
      exact ⟨_, _, _, _, rfl, tp2 hn g7 (.str _ (by decide +kernel)) (tp3 hn (s7 _ _ g6) q4 t q5), L7, k2.trans (Keep.of (((s3.trans s4).trans (s5.trans s6)).trans s7))⟩
    walk_at "rd"
    refine r_ite (fun c => ?_) (fun c => ?_)
    · walk_at "rd"
      refine ⟨by show 1 ≤ sizeLine; decide, fun p3 n3 => ?_⟩
      obtain ⟨H3, e, L3, s3, g3⟩ := new_tg (o := .tup [.int 98]) L2 n3
      rw [e]
      clear e
      walk_at "rd"
      refine ⟨by show 2 ≤ sizeLine; decide, fun p4 n4 => ?_⟩
      obtain ⟨H4, e, L4, s4, g4⟩ := new_tg (o := .tup [.ref p3, v]) L3 n4
      rw [e]
      clear e
      walk_at "rd"
      refine ⟨by show 1 ≤ sizeLine; decide, fun p5 n5 => ?_⟩
      obtain ⟨H5, e, L5, s5, g5⟩ := new_tg (o := .tup [.ref p4]) L4 n5
      rw [e]
      clear e
      walk_at "rd"
      refine ⟨by show 2 ≤ sizeLine; decide, fun p6 n6 => ?_⟩
      obtain ⟨H6, e, L6, s6, g6⟩ := new_tg (o := .tup [.str "map", .ref p5]) L5 n6
      rw [e]
      clear e
      walk_at "rd"
      have t := t.same ((s3.trans s4).trans (s5.trans s6))
      have q3 : Tg H6 S.a n (.ref p3) _ := tp1 hn ((s4.trans (s5.trans s6)) _ _ g3) (.int 98)
      exact ⟨_, _, _, _, rfl, tp2 hn g6 (.str _ (by decide +kernel)) (tp1 hn (s6 _ _ g5) (tp2 hn ((s5.trans s6) _ _ g4) q3 t)), L6, k2.trans (Keep.of ((s3.trans s4).trans (s5.trans s6)))⟩
    · walk_at "rd"
      refine ⟨by show 1 ≤ sizeLine; decide, fun p3 n3 => ?_⟩
      obtain ⟨H3, e, L3, s3, g3⟩ := new_tg (o := .tup [.int 97]) L2 n3
      rw [e]
      clear e
      walk_at "rd"
      refine ⟨by show 3 ≤ sizeLine; decide, fun p4 n4 => ?_⟩
      obtain ⟨H4, e, L4, s4, g4⟩ := new_tg (o := .tup [.str "number", .int 7, .int 0]) L3 n4
      rw [e]
      clear e
      walk_at "rd"
      refine ⟨by show 2 ≤ sizeLine; decide, fun p5 n5 => ?_⟩
      obtain ⟨H5, e, L5, s5, g5⟩ := new_tg (o := .tup [.ref p3, .ref p4]) L4 n5
      rw [e]
      clear e
      walk_at "rd"
      refine ⟨by show 2 ≤ sizeLine; decide, fun p6 n6 => ?_⟩
      obtain ⟨H6, e, L6, s6, g6⟩ := new_tg (o := .tup [.int 97, .int 1]) L5 n6
      rw [e]
      clear e
      walk_at "rd"
      refine ⟨by show 2 ≤ sizeLine; decide, fun p7 n7 => ?_⟩
      obtain ⟨H7, e, L7, s7, g7⟩ := new_tg (o := .tup [.ref p6, v]) L6 n7
      rw [e]
      clear e
      walk_at "rd"
      refine ⟨by show 1 ≤ sizeLine; decide, fun p8 n8 => ?_⟩
      obtain ⟨H8, e, L8, s8, g8⟩ := new_tg (o := .tup [.int 98]) L7 n8
      rw [e]
      clear e
      walk_at "rd"
      refine ⟨by show 1 ≤ sizeLine; decide, fun p9 n9 => ?_⟩
      obtain ⟨H9, e, L9, s9, g9⟩ := new_tg (o := .tup [.str "null"]) L8 n9
      rw [e]
      clear e
      walk_at "rd"
      refine ⟨by show 2 ≤ sizeLine; decide, fun p10 n10 => ?_⟩
      obtain ⟨H10, e, L10, s10, g10⟩ := new_tg (o := .tup [.ref p8, .ref p9]) L9 n10
      rw [e]
      clear e
      walk_at "rd"
      refine ⟨by show 3 ≤ sizeLine; decide, fun p11 n11 => ?_⟩
      obtain ⟨H11, e, L11, s11, g11⟩ := new_tg (o := .tup [.ref p5, .ref p7, .ref p10]) L10 n11
      rw [e]
      clear e
      walk_at "rd"
      refine ⟨by show 2 ≤ sizeLine; decide, fun p12 n12 => ?_⟩
      obtain ⟨H12, e, L12, s12, g12⟩ := new_tg (o := .tup [.str "map", .ref p11]) L11 n12
      rw [e]
      clear e
      walk_at "rd"
      have u11 := s12
      have u10 := s11.trans u11
      have u9 := s10.trans u10
      have u8 := s9.trans u9
      have u7 := s8.trans u8
      have u6 := s7.trans u7
      have u5 := s6.trans u6
      have u4 := s5.trans u5
      have u3 := s4.trans u4
      have t := t.same (s3.trans u3)
      have q3 : Tg H12 S.a n (.ref p3) _ := tp1 hn (u3 _ _ g3) (.int 97)
      have q4 : Tg H12 S.a n (.ref p4) _ := tp3 hn (u4 _ _ g4) (.str _ (by decide +kernel)) (.int 7) (.int 0)
      have q5 : Tg H12 S.a n (.ref p5) _ := tp2 hn (u5 _ _ g5) q3 q4
      have q6 : Tg H12 S.a n (.ref p6) _ := tp2 hn (u6 _ _ g6) (.int 97) (.int 1)
      have q7 : Tg H12 S.a n (.ref p7) _ := tp2 hn (u7 _ _ g7) q6 t
      have q8 : Tg H12 S.a n (.ref p8) _ := tp1 hn (u8 _ _ g8) (.int 98)
      have q9 : Tg H12 S.a n (.ref p9) _ := tp1 hn (u9 _ _ g9) (.str _ (by decide +kernel))
      have q10 : Tg H12 S.a n (.ref p10) _ := tp2 hn (u10 _ _ g10) q8 q9
      have q11 : Tg H12 S.a n (.ref p11) _ := tp3 hn (u11 _ _ g11) q5 q7 q10
      exact ⟨_, _, _, _, rfl, tp2 hn g12 (.str _ (by decide +kernel)) q11, L12, k2.trans (Keep.of (s3.trans u3))⟩
  · rintro σ H1 ⟨v, d, y3, y4, rfl, t, L, k1⟩
    walk_at "rd"
    exact h v d H1 t L k1
theorem ok__law_odd (F : FunD K "_law_odd" "_law_odd" (defArgs s__law_odd) (defBody s__law_odd) (defScope s__law_odd) [] [] (glAd "_law_odd" K) fd) (m : mg "_law_odd" = some (.ref (glAd "_law_odd" K))) (nb : Nm w K mg) (c__law_next : Cal P w K mg base 1 "_law_next" (sp__law_next K) []) : Cal P w K mg base 2 "_law_odd" (sp__law_odd K) [] := by
  refine calD F m sc__law_odd (fun _ _ _ _ _ _ us hl => match us, hl with | [_, _], _ => rfl) len2 (fun cdv A outer s H vs Q E hr h => ⟨_, (pss_cons (ps_set (i := 2) sc__law_odd.nd rfl (Or.inl rfl) (pe_lst (pa_cons pe_str (pa_cons pe_str (pa_cons pe_str (pa_cons pe_str (pa_cons pe_str (pa_cons pe_str (pa_cons pe_str (pa_cons pe_str (pa_cons pe_str (pa_cons pe_str pa_nil))))))))))))
    (pss_cons (ps_set (i := 3) sc__law_odd.nd rfl (Or.inl rfl) (pe_lst (pa_cons pe_int (pa_cons pe_int (pa_cons (pe_un un_neg pe_int) (pa_cons pe_int (pa_cons pe_int (pa_cons pe_int (pa_cons pe_int (pa_cons pe_int (pa_cons pe_int (pa_cons pe_int (pa_cons pe_int (pa_cons (pe_op op_pow pe_int pe_int) pa_nil))))))))))))))
    (pss_cons (ps_set (i := 4) sc__law_odd.nd rfl (Or.inl rfl) (pe_lst (pa_cons (pe_ix ix_list (pv 2) (pe_c c__law_next hr (by decide) rfl (pa_cons (pv 0) (pa_cons pe_int pa_nil))) (fun _ _ => rfl)) (pa_cons (pe_ix ix_list (pv 3) (pe_c c__law_next hr (by decide) rfl (pa_cons (pv 0) (pa_cons pe_int pa_nil))) (fun _ _ => rfl)) (pa_cons pe_bl (pa_cons pe_bl (pa_cons pe_non (pa_cons (pe_tup pa_nil) (pa_cons (pe_lst pa_nil) (pa_cons (pv 1) (pa_cons (pe_tup (pa_cons (pv 1) pa_nil)) (pa_cons (pe_tup (pa_cons pe_int (pa_cons pe_int pa_nil))) pa_nil))))))))))))
    (pss_one (ps_ret (pe_ix ix_list (pv 4) (pe_c c__law_next hr (by decide) rfl (pa_cons (pv 0) (pa_cons pe_int pa_nil))) (fun _ _ => rfl))))))), ?_⟩)
  obtain ⟨_, v, rfl, S, n, d, rfl, L, t, hn, h⟩ := h
  walk_at "rd"
  refine d_new L (by show 10 ≤ sizeLine; decide) fun p2 H2 L2 k2 s2 n2 g2 ne2 => ?_
  walk_at "rd"
  refine d_new L2 (by show 12 ≤ sizeLine; decide) fun p3 H3 L3 k3 s3 n3 g3 ne3 => ?_
  walk_at "rd"
  refine d_next L3 (by decide) fun r H4 a4 b4 L4 k4 => ?_
  obtain ⟨i, rfl⟩ : ∃ i : Nat, r = i := ⟨r.toNat, by omega⟩
  refine r_ixA (xs := [.str "null", .str "truth", .str "number", .str "bytes", .str "text", .str "list", .str "map", .str "Null", .str "", .str "1"]) (SqL.of (k4 _ _ ne2 (s3 _ _ g2))) (by show i < 10; omega) fun x hx => ?_
  obtain ⟨sx, rfl, ox⟩ : ∃ z, x = V.str z ∧ PyData.strOk z = true := by
    simp only [List.mem_cons, List.not_mem_nil, or_false] at hx
    rcases hx with e|e|e|e|e|e|e|e|e|e <;> exact ⟨_, e, by decide +kernel⟩
  clear hx
  walk_at "rd"
  refine d_next L4 (by decide) fun r H5 a5 b5 L5 k5 => ?_
  obtain ⟨j, rfl⟩ : ∃ j : Nat, r = j := ⟨r.toNat, by omega⟩
  refine r_ixA (SqL.of (k5 _ _ ne3 (k4 _ _ ne3 g3))) (by show j < 12; omega) fun x hx => ?_
  obtain ⟨nx, rfl⟩ : ∃ z, x = V.int z := by
    simp only [List.mem_cons, List.not_mem_nil, or_false] at hx
    rcases hx with e|e|e|e|e|e|e|e|e|e|e|e <;> exact ⟨_, e⟩
  clear hx
  walk_at "rd"
  refine ⟨Nat.zero_le _, fun p6 n6 => ?_⟩
  have ne6 := L5.ne_free n6
  obtain ⟨H6, e, L6, s6, g6⟩ := new_tg (o := .tup []) L5 n6
  rw [e]
  clear e
  walk_at "rd"
  refine ⟨Nat.zero_le _, fun p7 n7 => ?_⟩
  have ne7 := L6.ne_free n7
  obtain ⟨H7, e, L7, s7, g7⟩ := new_tg (o := .lst []) L6 n7
  rw [e]
  clear e
  walk_at "rd"
  refine ⟨by show 1 ≤ sizeLine; decide, fun p8 n8 => ?_⟩
  have ne8 := L7.ne_free n8
  obtain ⟨H8, e, L8, s8, g8⟩ := new_tg (o := .tup [v]) L7 n8
  rw [e]
  clear e
  walk_at "rd"
  refine ⟨by show 2 ≤ sizeLine; decide, fun p9 n9 => ?_⟩
  have ne9 := L8.ne_free n9
  obtain ⟨H9, e, L9, s9, g9⟩ := new_tg (o := .tup [.int 1, .int 2]) L8 n9
  rw [e]
  clear e
  walk_at "rd"
  refine d_new L9 (by show 10 ≤ sizeLine; decide) fun p10 H10 L10 k10 s10 n10 g10 ne10 => ?_
  walk_at "rd"
  refine d_next L10 (by decide) fun r H11 a11 b11 L11 k11 => ?_
  obtain ⟨l, rfl⟩ : ∃ l : Nat, r = l := ⟨r.toNat, by omega⟩
  refine r_ixA (SqL.of (k11 _ _ ne10 g10)) (by show l < 10; omega) fun x hx => ?_
  have kk : Keep S H H11 := (k2.trans k3).trans ((k4.trans k5).trans ((Keep.of ((s6.trans s7).trans (s8.trans s9))).trans (k10.trans k11)))
  have t11 := t.kp L kk
  have e6 : Tg H11 S.a n (.ref p6) _ := .tup (k11 _ _ ne6 ((s7.trans ((s8.trans s9).trans s10)) _ _ g6)) (Nat.zero_le _) .nil
  have e7 : Tg H11 S.a n (.ref p7) _ := .lst ne7 (k11 _ _ ne7 (((s8.trans s9).trans s10) _ _ g7)) (Nat.zero_le _) .nil
  have e8 : Tg H11 S.a n (.ref p8) _ := tp1 hn (k11 _ _ ne8 ((s9.trans s10) _ _ g8)) t11
  have e9 : Tg H11 S.a n (.ref p9) _ := tp2 hn (k11 _ _ ne9 (s10 _ _ g9)) (.int 1) (.int 2)
  obtain ⟨dx, tx⟩ : ∃ d, Tg H11 S.a n x d := by
    simp only [List.mem_cons, List.not_mem_nil, or_false] at hx
    rcases hx with e|e|e|e|e|e|e|e|e|e <;> rw [e]
    · exact ⟨_, .str _ ox⟩
    · exact ⟨_, .int _⟩
    · exact ⟨_, .bl _⟩
    · exact ⟨_, .bl _⟩
    · exact ⟨_, .non⟩
    · exact ⟨_, e6⟩
    · exact ⟨_, e7⟩
    · exact ⟨_, t11⟩
    · exact ⟨_, e8⟩
    · exact ⟨_, e9⟩
  exact h _ _ _ tx L11 kk
end

abbrev s__law_changed : Stmt := (top 34)
theorem sc__law_changed : FnScope ["state", "thing", "deep", "at", "pick"] ["state", "thing", "deep"] (defScope s__law_changed) := ⟨rfl, rfl, rfl, by decide +kernel, rfl, by decide +kernel, by decide +kernel⟩
def sp__law_changed (K : Frg) (N : Nat) : Sp := sp3 fun a b c H Q _ => ∃ (S : SC) (n : Nat) (d : PyData) (k : Nat), a = .ref S.a ∧ LS K S H ∧ Tg H S.a n b d ∧ 3 ≤ n ∧ n ≤ 900 ∧ c = .int (k : Int) ∧ k < N ∧ ∀ (v : V) (d : PyData) (H' : Hp), Tg H' S.a (n + 1) v d → LS K S H' → Keep S H H' → Q v H'
theorem no__law_changed {K : Frg} {vs : List V} {H : Hp} {Q : VK} {E : XK} (h : sp__law_changed K 0 vs H Q E) : False := by
  obtain ⟨_, _, _, rfl, _, _, _, _, _, _, _, _, _, _, h, _⟩ := h
  exact absurd h (Nat.not_lt_zero _)
theorem LS.ne_tup {K : Frg} {S : SC} {H : Hp} {a : Addr} {xs : List V} (L : LS K S H) (h : H a = some (.tup xs)) : a ≠ S.a := fun e => L.noTup xs (e ▸ h)
section
variable {P : Program} {w : World} {K : PySem.W.Frag} {mg : Str → Option Value} {base : Heap} {f : Addr} {fd : FuncData}
theorem ok__law_changed (n : Nat) (F : FunD K "_law_changed" "_law_changed" (defArgs s__law_changed) (defBody s__law_changed) (defScope s__law_changed) [] [] (glAd "_law_changed" K) fd) (m : mg "_law_changed" = some (.ref (glAd "_law_changed" K))) (nb : Nm w K mg) (c__law_next : Cal P w K mg base 1 "_law_next" (sp__law_next K) []) (c__law_is_integer : Cal P w K mg base 1 "_law_is_integer" sp__law_is_integer []) (c__law_odd : Cal P w K mg base 2 "_law_odd" (sp__law_odd K) []) (c__law_changed : Cal P w K mg base (3 + n) "_law_changed" (sp__law_changed K n) []) : Cal P w K mg base (3 + n + 1) "_law_changed" (sp__law_changed K (n + 1)) [] := by
  refine calD F m sc__law_changed (fun _ _ _ _ _ _ us hl => match us, hl with | [_, _, _], _ => rfl) len3 (fun cdv A outer s H vs Q E hr h => ⟨_, (pss_cons (ps_if (PW.pt (pw_or (pt_not (pt_val (pe_callB call_isi (by rfl) nb.isinstance (by decide +kernel) (pa_cons (pv 1) (pa_cons (pe_bltn (v := .ty "tuple") (u := .type "tuple") (by rfl) nb.tuple (by decide +kernel) rfl) pa_nil))))) (pw_or (pt_cmpR op_eq (pe_callB call_len_seq (by rfl) nb.len PySem.boot_len (pa_cons (pv 1) pa_nil)) pe_int (nomark _)) (pw_or1 (pt_cmpR op_eq (pv 2) pe_int (nomark _))))))
    (pss_one (ps_ret (pe_c c__law_odd hr (by omega) rfl (pa_cons (pv 0) (pa_cons (pv 1) pa_nil)))))
    pss_nil)
    (pss_cons (ps_set (i := 3) sc__law_changed.nd rfl (Or.inl rfl) (pe_c c__law_next hr (by omega) rfl (pa_cons (pv 0) (pa_cons (pe_callB call_len_seq (by rfl) nb.len PySem.boot_len (pa_cons (pv 1) pa_nil)) pa_nil))))
    (pss_cons (ps_set (i := 4) sc__law_changed.nd rfl (Or.inl rfl) (pe_c c__law_next hr (by omega) rfl (pa_cons (pv 0) (pa_cons pe_int pa_nil))))
    (pss_cons (ps_if (pt_cmpR op_eq (pv 4) pe_int (nomark _))
    (pss_one (ps_ret (pe_op op_catA (pe_slice sl_tupA (pv 1) po_none (po_some (pv 3))) (pe_slice sl_tupA (pv 1) (po_some (pe_op op_add (pv 3) pe_int)) po_none))))
    pss_nil)
    (pss_cons (ps_if (pt_cmpR op_eq (pv 4) pe_int (nomark _))
    (pss_one (ps_ret (pe_op op_catA (pe_op op_catA (pe_slice sl_tupA (pv 1) po_none (po_some (pv 3))) (pe_tup (pa_cons (pe_c c__law_odd hr (by omega) rfl (pa_cons (pv 0) (pa_cons (pe_ix ix_tup (pv 1) (pv 3) (fun _ _ => rfl)) pa_nil))) pa_nil))) (pe_slice sl_tupA (pv 1) (po_some (pv 3)) po_none))))
    pss_nil)
    (pss_cons (ps_if (pt_cmpR op_eq (pv 4) pe_int (nomark _))
    (pss_one (ps_ret (pe_callTy call_list_of (by rfl) nb.list (by decide +kernel) (pa_cons (pv 1) pa_nil))))
    pss_nil)
    (pss_cons (ps_if (pt_cmpR op_eq (pv 4) pe_int (nomark _))
    (pss_one (ps_ret (pe_op op_catA (pe_revT (pe_slice sl_tupA (pv 1) po_none (po_some (pv 3)))) (pe_revT (pe_slice sl_tupA (pv 1) (po_some (pv 3)) po_none)))))
    pss_nil)
    (pss_cut (ps_if (PW.pt (pw_and (pt_cmpR op_eq (pv 4) pe_int (nomark _)) (pw_and (pt_cmpR (op_eqS (Nat.lt_of_succ_lt (hu_of hr))) (pe_ix ix_tup (pv 1) pe_int (fun _ _ => rfl)) pe_str (nomark _)) (pw_and (pt_cmpR op_eq (pe_callB call_len_seq (by rfl) nb.len PySem.boot_len (pa_cons (pv 1) pa_nil)) pe_int (nomark _)) (pw_and1 (pt_val (pe_c c__law_is_integer hr (by omega) rfl (pa_cons (pe_ix ix_tup (pv 1) pe_int (fun _ _ => rfl)) pa_nil))))))))
    (pss_one (ps_ret (pe_tup (pa_cons pe_str (pa_cons (pe_op op_mul (pe_ix ix_tup (pv 1) pe_int (fun _ _ => rfl)) (pe_ix ix_list (pe_lst (pa_cons pe_int (pa_cons (pe_un un_neg pe_int) (pa_cons pe_int pa_nil)))) (pe_c c__law_next hr (by omega) rfl (pa_cons (pv 0) (pa_cons pe_int pa_nil))) (fun _ _ => rfl))) (pa_cons (pe_ix ix_tup (pv 1) pe_int (fun _ _ => rfl)) pa_nil))))))
    pss_nil)
    (pss_one (ps_ret (pe_op op_catA (pe_op op_catA (pe_slice sl_tupA (pv 1) po_none (po_some (pv 3))) (pe_tup (pa_cons (pe_c c__law_changed hr (by omega) rfl (pa_cons (pv 0) (pa_cons (pe_ix ix_tup (pv 1) (pv 3) (fun _ _ => rfl)) (pa_cons (pe_op op_sub (pv 2) pe_int) pa_nil)))) pa_nil))) (pe_slice sl_tupA (pv 1) (po_some (pe_op op_add (pv 3) pe_int)) po_none)))))))))))), ?_⟩)
  obtain ⟨_, v, _, rfl, S, n, d, k, rfl, L, t, hn, hn9, rfl, hk, h⟩ := h
  have hodd : ∀ {E : XK}, sp__law_odd K ([.ref S.a, v] ++ []) H Q E := fun {E} => ⟨_, _, rfl, S, n, d, rfl, L, t, hn, fun v d H' t' L' k' => h v d H' (t'.mono (Nat.le_succ n)) L' k'⟩
  walk_at "rd"
  refine i_tup t ⟨_, rfl, ?_⟩
  cases t with
  | tup ha hl r =>
    rename_i a xs ds
    rw [show isTup (.tuple ds) = true from rfl]
    walk_at "rd"
    refine ⟨a, xs, rfl, .inr (SqT.of ha), ?_⟩
    walk_at "rd"
    by_cases c0 : xs.length = 0
    · rw [if_pos (decide_eq_true (by omega))]
      walk_at "rd"
      exact hodd
    rw [if_neg (by rw [decide_eq_true_eq]; omega)]
    walk_at "rd"
    by_cases ck : k = 0
    · rw [if_pos (decide_eq_true (by omega))]
      walk_at "rd"
      exact hodd
    rw [if_neg (by rw [decide_eq_true_eq]; omega)]
    walk_at "rd"
    refine ⟨a, xs, rfl, .inr (SqT.of ha), ?_⟩
    walk_at "rd"
    refine d_next L (by omega) fun r1 H1 a1 b1 L1 k1 => ?_
    obtain ⟨i, rfl⟩ : ∃ i : Nat, r1 = i := ⟨r1.toNat, by omega⟩
    walk_at "rd"
    refine d_next L1 (by decide) fun q H2 a2 b2 L2 k2 => ?_
    have kk := k1.trans k2
    have h2a := kk _ _ (L.ne_tup ha) ha
    have r2 := r.btz L.noTup kk
    walk_at "rd"
    by_cases c : q = 0
    · rw [if_pos (decide_eq_true c)]
      walk_at "rd"
      refine ⟨_, rfl, r_slTake (i := i) h2a r2 (by omega) fun p3 H3 g3 r3 s3 => ?_⟩
      walk_at "rd"
      refine ⟨_, rfl, ?_⟩
      walk_at "rd"
      refine r_slDrop (i := i + 1) (s3 _ _ h2a) (r2.same s3) (by omega) fun p4 H4 g4 r4 s4 => ?_
      walk_at "rd"
      refine r_catT (s4 _ _ g3) g4 (by rw [List.length_take, List.length_drop]; omega) fun p5 H5 g5 s5 => ?_
      walk_at "rd"
      have s25 := (s3.trans s4).trans s5
      refine h _ _ _ (.tup g5 (by rw [List.length_append, List.length_take, List.length_drop]; omega) (tgAll_app ((r3.same (s4.trans s5)).mono (Nat.le_succ n)) ((r4.same s5).mono (Nat.le_succ n)))) (L2.same s25) (kk.trans (Keep.of s25))
    rw [if_neg (by rw [decide_eq_true_eq]; exact c)]
    walk_at "rd"
    obtain ⟨y, hy⟩ : ∃ y, xs[i]? = some y := ⟨_, List.getElem?_eq_getElem (by omega)⟩
    obtain ⟨dy, _, ty⟩ := tgAll_get r2 hy
    by_cases c1 : q = 1
    · rw [if_pos (decide_eq_true c1)]
      walk_at "rd"
      refine ⟨_, rfl, r_slTake (i := i) h2a r2 (by omega) fun p3 H3 g3 r3 s3 => ?_⟩
      walk_at "rd"
      refine ⟨_, _, _, _, rfl, rfl, SqT.of (s3 _ _ h2a), atI_nat hy, ?_⟩
      walk_at "rd"
      refine ⟨_, _, rfl, S, n, dy, rfl, L2.same s3, ty.same s3, hn, fun v d4 H4 t4 L4 k4 => ?_⟩
      walk_at "rd"
      refine ⟨by show 1 ≤ sizeLine; decide, fun p5 n5 => ?_⟩
      have ne5 := L4.ne_free n5
      obtain ⟨H5, e, L5, s5, g5⟩ := new_tg (o := .tup [v]) L4 n5
      rw [e]
      clear e
      walk_at "rd"
      have g3 := s5 _ _ (k4 _ _ ((L2.same s3).ne_tup g3) g3)
      have kk := kk.trans ((Keep.of s3).trans (k4.trans (Keep.of s5)))
      have h5a := kk _ _ (L.ne_tup ha) ha
      have r5 := r.btz L.noTup kk
      refine r_catT g3 g5 (by rw [List.length_take]; show _ + 1 ≤ _; omega) fun p6 H6 g6 s6 => ?_
      walk_at "rd"
      refine ⟨_, rfl, ?_⟩
      walk_at "rd"
      refine r_slDrop (i := i) (s6 _ _ h5a) (r5.same s6) (by omega) fun p7 H7 g7 r7 s7 => ?_
      walk_at "rd"
      refine r_catT (s7 _ _ g6) g7 (by rw [List.length_append, List.length_take, List.length_drop]; show _ + 1 + _ ≤ _; omega) fun p8 H8 g8 s8 => ?_
      walk_at "rd"
      have s58 := (s6.trans s7).trans s8
      refine h _ _ _ (.tup g8 (by rw [List.length_append, List.length_append, List.length_take, List.length_drop]; show _ + 1 + _ ≤ _; omega) (tgAll_app (tgAll_app (((tgAll_take r5 i).same s58).mono (Nat.le_succ n)) (.cons ((t4.same (s5.trans s58)).mono (Nat.le_succ n)) .nil)) ((r7.same s8).mono (Nat.le_succ n)))) (L5.same s58) (kk.trans (Keep.of s58))
    rw [if_neg (by rw [decide_eq_true_eq]; exact c1)]
    walk_at "rd"
    by_cases c2 : q = 2
    · rw [if_pos (decide_eq_true c2)]
      walk_at "rd"
      refine ⟨a, xs, rfl, .inr (SqT.of h2a), fun p3 n3 => ?_⟩
      have ne3 := L2.ne_free n3
      obtain ⟨H3, e, L3, s3, g3⟩ := new_tg (o := .lst xs) L2 n3
      rw [e]
      clear e
      walk_at "rd"
      exact h _ _ _ (.lst ne3 g3 (by omega) ((r2.same s3).mono (Nat.le_succ n))) L3 (kk.trans (Keep.of s3))
    rw [if_neg (by rw [decide_eq_true_eq]; exact c2)]
    walk_at "rd"
    by_cases c3 : q = 3
    · rw [if_pos (decide_eq_true c3)]
      walk_at "rd"
      refine r_revT ?_
      walk_at "rd"
      refine ⟨_, rfl, r_slTake (i := i) h2a r2 (by omega) fun p3 H3 g3 r3 s3 => ⟨_, _, rfl, SqT.of g3, fun p4 n4 => ?_⟩⟩
      obtain ⟨H4, e, L4, s4, g4⟩ := new_tg (o := .tup (xs.take i).reverse) (L2.same s3) n4
      rw [e]
      clear e
      walk_at "rd"
      refine r_revT ?_
      walk_at "rd"
      refine ⟨_, rfl, ?_⟩
      walk_at "rd"
      refine r_slDrop (i := i) ((s3.trans s4) _ _ h2a) (r2.same (s3.trans s4)) (by omega) fun p5 H5 g5 r5 s5 => ⟨_, _, rfl, SqT.of g5, fun p6 n6 => ?_⟩
      obtain ⟨H6, e, L6, s6, g6⟩ := new_tg (o := .tup (xs.drop i).reverse) (L4.same s5) n6
      rw [e]
      clear e
      walk_at "rd"
      refine r_catT ((s5.trans s6) _ _ g4) g6 (by rw [List.length_reverse, List.length_reverse, List.length_take, List.length_drop]; omega) fun p7 H7 g7 s7 => ?_
      walk_at "rd"
      have s27 := (s3.trans s4).trans ((s5.trans s6).trans s7)
      have s37 := s4.trans ((s5.trans s6).trans s7)
      refine h _ _ _ (.tup g7 (by rw [List.length_append, List.length_reverse, List.length_reverse, List.length_take, List.length_drop]; omega) (tgAll_app (tgAll_rev ((r3.same s37).mono (Nat.le_succ n))) (tgAll_rev ((r5.same (s6.trans s7)).mono (Nat.le_succ n))))) (L2.same s27) (kk.trans (Keep.of s27))
    rw [if_neg (by rw [decide_eq_true_eq]; exact c3)]
    walk_at "rd"
    refine r_cut (fun σ H' => H' = H2 ∧ σ = [some (.ref S.a), some (.ref a), some (.int (k : Nat)), some (.int (i : Nat)), some (.int q)]) ?_ ?_
    · walk_at "rd"
      by_cases c4 : q = 4
      · rw [if_pos (decide_eq_true c4)]
        walk_at "rd"
        obtain ⟨x0, h0⟩ : ∃ x, xs[0]? = some x := ⟨_, List.getElem?_eq_getElem (by omega)⟩
        obtain ⟨d0, _, t0⟩ := tgAll_get r2 h0
        refine r_ixT (SqT.of h2a) (atI_nat (j := 0) h0) ?_
        walk_at "rd"
        refine ⟨_, d0, rfl, (t0.dp (K := K)).1, (t0.dp (K := K)).2, by decide +kernel, ?_⟩
        walk_at "rd"
        cases PyData.eqv d0 (PyData.str (Str.ofString "number"))
        rotate_left
        · walk_at "rd"
          refine ⟨a, xs, rfl, .inr (SqT.of h2a), ?_⟩
          walk_at "rd"
          by_cases c5 : xs.length = 3
          · rw [if_pos (decide_eq_true (by omega))]
            walk_at "rd"
            obtain ⟨x1, h1⟩ : ∃ x, xs[1]? = some x := ⟨_, List.getElem?_eq_getElem (by omega)⟩
            obtain ⟨x2, h2⟩ : ∃ x, xs[2]? = some x := ⟨_, List.getElem?_eq_getElem (by omega)⟩
            obtain ⟨d1, _, t1⟩ := tgAll_get r2 h1
            obtain ⟨d2, _, t2⟩ := tgAll_get r2 h2
            refine r_ixT (SqT.of h2a) (atI_nat (j := 1) h1) ?_
            walk_at "rd"
            refine ⟨_, rfl, S.a, n, d1, t1, ?_⟩
            walk_at "rd"
            rcases no_int t1 with ⟨z1, rfl, rfl, q1⟩ | ⟨q1, _, _⟩
            · rw [q1]
              walk_at "rd"
              refine r_ixT (SqT.of h2a) (atI_nat (j := 1) h1) ?_
              walk_at "rd"
              refine d_pickI (-1) 10 L2 rfl (by show 3 ≤ sizeLine; decide) (by decide) rfl (all_cons ⟨_, rfl, by omega, by omega⟩ (all_cons ⟨_, rfl, by omega, by omega⟩ (all_cons ⟨_, rfl, by omega, by omega⟩ all_nil))) fun z H3 b3 b4 _ L3 k3 => ?_
              walk_at "rd"
              refine r_I (C := CMul) (.inr ⟨by omega, by omega⟩) ?_
              walk_at "rd"
              refine r_ixT (SqT.of (k3 _ _ (L2.ne_tup h2a) h2a)) (atI_nat (j := 2) h2) ?_
              walk_at "rd"
              refine ⟨by show 3 ≤ sizeLine; decide, fun p5 n5 => ?_⟩
              obtain ⟨H5, e, L5, s5, g5⟩ := new_tg (o := .tup [.str "number", .int (z1 * z), x2]) L3 n5
              rw [e]
              clear e
              walk_at "rd"
              exact h _ _ _ (tp3 (by omega) g5 (.str _ (by decide +kernel)) (.int _) (((t2.kp L2 k3).same s5).mono (Nat.le_succ n))) L5 (kk.trans (k3.trans (Keep.of s5)))
            · rw [q1]
              walk_at "rd"
              exact ⟨rfl, rfl⟩
          · rw [if_neg (by rw [decide_eq_true_eq]; omega)]
            walk_at "rd"
            exact ⟨rfl, rfl⟩
        · walk_at "rd"
          exact ⟨rfl, rfl⟩
      · rw [if_neg (by rw [decide_eq_true_eq]; exact c4)]
        walk_at "rd"
        exact ⟨rfl, rfl⟩
    rintro σ _ ⟨rfl, rfl⟩
    walk_at "rd"
    refine ⟨_, rfl, r_slTake (i := i) h2a r2 (by omega) fun p3 H3 g3 r3 s3 => ?_⟩
    walk_at "rd"
    refine ⟨_, _, _, _, rfl, rfl, SqT.of (s3 _ _ h2a), atI_nat hy, ?_⟩
    walk_at "rd"
    refine ⟨_, _, _, rfl, S, n, dy, k - 1, rfl, L2.same s3, ty.same s3, hn, hn9, congrArg V.int (by omega), by omega, fun v d4 H4 t4 L4 k4 => ?_⟩
    walk_at "rd"
    refine ⟨by show 1 ≤ sizeLine; decide, fun p5 n5 => ?_⟩
    have ne5 := L4.ne_free n5
    obtain ⟨H5, e, L5, s5, g5⟩ := new_tg (o := .tup [v]) L4 n5
    rw [e]
    clear e
    walk_at "rd"
    have g3 := s5 _ _ (k4 _ _ ((L2.same s3).ne_tup g3) g3)
    have kk := kk.trans ((Keep.of s3).trans (k4.trans (Keep.of s5)))
    have h5a := kk _ _ (L.ne_tup ha) ha
    have r5 := r.btz L.noTup kk
    refine r_catT g3 g5 (by rw [List.length_take]; show _ + 1 ≤ _; omega) fun p6 H6 g6 s6 => ?_
    walk_at "rd"
    refine ⟨_, rfl, ?_⟩
    walk_at "rd"
    refine r_slDrop (i := i + 1) (s6 _ _ h5a) (r5.same s6) (by omega) fun p7 H7 g7 r7 s7 => ?_
    walk_at "rd"
    refine r_catT (s7 _ _ g6) g7 (by rw [List.length_append, List.length_take, List.length_drop]; show _ + 1 + _ ≤ _; omega) fun p8 H8 g8 s8 => ?_
    walk_at "rd"
    have s58 := (s6.trans s7).trans s8
    refine h _ _ _ (.tup g8 (by rw [List.length_append, List.length_append, List.length_take, List.length_drop]; show _ + 1 + _ ≤ _; omega) (tgAll_app (tgAll_app (((tgAll_take r5 i).same s58).mono (Nat.le_succ n)) (.cons (t4.same (s5.trans s58)) .nil)) ((r7.same s8).mono (Nat.le_succ n)))) (L5.same s58) (kk.trans (Keep.of s58))
  | _ =>
    rw [show isTup _ = false from rfl]
    walk_at "rd"
    exact hodd
theorem rec__law_changed (F : FunD K "_law_changed" "_law_changed" (defArgs s__law_changed) (defBody s__law_changed) (defScope s__law_changed) [] [] (glAd "_law_changed" K) fd) (m : mg "_law_changed" = some (.ref (glAd "_law_changed" K))) (nb : Nm w K mg) (c__law_next : Cal P w K mg base 1 "_law_next" (sp__law_next K) []) (c__law_is_integer : Cal P w K mg base 1 "_law_is_integer" sp__law_is_integer []) (c__law_odd : Cal P w K mg base 2 "_law_odd" (sp__law_odd K) []) : ∀ n, Cal P w K mg base (3 + n) "_law_changed" (sp__law_changed K n) []
  | 0 => calD (k := 2) F m sc__law_changed (fun _ _ _ _ _ _ us hl => match us, hl with | [_, _, _], _ => rfl) (fun _ _ _ _ h => (no__law_changed h).elim) (fun _ _ _ _ _ _ _ _ _ h => (no__law_changed h).elim)
  | n + 1 => ok__law_changed n F m nb c__law_next c__law_is_integer c__law_odd (rec__law_changed F m nb c__law_next c__law_is_integer c__law_odd n)
end

abbrev s_law : Stmt := (top 35)
theorem sc_law : FnScope ["script", "state", "value", "thing", "k", "told"] ["script"] (defScope s_law) := ⟨rfl, rfl, rfl, by decide +kernel, rfl, by decide +kernel, by decide +kernel⟩
section
variable {P : Program} {w : World} {K : PySem.W.Frag} {mg : Str → Option Value} {base : Heap} {f : Addr} {fd : FuncData}
theorem ok_law (F : FunD K "law" "law" (defArgs s_law) (defBody s_law) (defScope s_law) [] [] (glAd "law" K) fd) (nb : Nm w K mg) (c_is_value : Cal P w K mg base 7 "is_value" (sp_is_value K) []) (c__law_cell : Cal P w K mg base 1 "_law_cell" (sp__law_cell K) []) (c__law_state : Cal P w K mg base 2 "_law_state" (sp__law_state K) []) (c__law_next : Cal P w K mg base 1 "_law_next" (sp__law_next K) []) (c__law_value : Cal P w K mg base 10 "_law_value" (sp__law_value K 5) []) (c__law_is_value : Cal P w K mg base 62 "_law_is_value" (sp__law_is_value K 26) []) (c__law_around : Cal P w K mg base 2 "_law_around" (sp__law_around K) []) (c__law_changed : Cal P w K mg base 65 "_law_changed" (sp__law_changed K 62) []) : FnOk P w K mg base CX0 66 (glAd "law" K) fd ["script"] (sp_law K) := by
  refine fnD F sc_law len1 (fun cdv A outer s H vs Q E hr h => ⟨_, (pss_cons (ps_set (i := 1) sc_law.nd rfl (Or.inl rfl) (pe_c c__law_state hr (by decide) rfl (pa_cons (pv 0) (pa_cons (pe_op op_add pe_int (pe_op op_mod (pe_callB call_abs (by rfl) nb.abs (by decide +kernel) (pa_cons (pe_c c__law_cell hr (by decide) rfl (pa_cons (pv 0) (pa_cons pe_int pa_nil))) pa_nil)) pe_int)) pa_nil))))
    (pss_cons (ps_set (i := 2) sc_law.nd rfl (Or.inl rfl) (pe_c c__law_around hr (by decide) rfl (pa_cons (pv 1) (pa_cons (pe_c c__law_value hr (by decide) rfl (pa_cons (pv 1) (pa_cons pe_int (pa_cons (pe_lst (pa_cons pe_str (pa_cons pe_str (pa_cons pe_str (pa_cons pe_str (pa_cons pe_str pa_nil)))))) (pa_cons pe_bl pa_nil))))) (pa_cons (pe_c c__law_next hr (by decide) rfl (pa_cons (pv 1) (pa_cons (pe_ix ix_list (pe_lst (pa_cons pe_int (pa_cons pe_int pa_nil))) (pe_c c__law_next hr (by decide) rfl (pa_cons (pv 1) (pa_cons pe_int pa_nil))) (fun _ _ => rfl)) pa_nil))) pa_nil)))))
    (pss_cons (ps_set (i := 3) sc_law.nd rfl (Or.inl rfl) (pv 2))
    (pss_cons (ps_for PassesOwn.never rfl (pi_range1 rfl nb.range (pa_cons (pe_c c__law_next hr (by decide) rfl (pa_cons (pv 1) (pa_cons pe_int pa_nil))) pa_nil)) (pg_name (i := 4) sc_law.nd rfl (Or.inl rfl))
    (pss_one (ps_set (i := 3) sc_law.nd rfl (Or.inl rfl) (pe_c c__law_changed hr (by decide) rfl (pa_cons (pv 1) (pa_cons (pv 3) (pa_cons (pe_op op_add pe_int (pe_c c__law_next hr (by decide) rfl (pa_cons (pv 1) (pa_cons pe_int pa_nil)))) pa_nil)))))))
    (pss_cons (ps_set (i := 3) sc_law.nd rfl (Or.inl rfl) (pe_c c__law_around hr (by decide) rfl (pa_cons (pv 1) (pa_cons (pv 3) (pa_cons (pe_ix ix_list (pe_lst (pa_cons pe_int (pa_cons pe_int (pa_cons (pe_c c__law_next hr (by decide) rfl (pa_cons (pv 1) (pa_cons pe_int pa_nil))) (pa_cons (pe_c c__law_next hr (by decide) rfl (pa_cons (pv 1) (pa_cons pe_int pa_nil))) pa_nil))))) (pe_c c__law_next hr (by decide) rfl (pa_cons (pv 1) (pa_cons pe_int pa_nil))) (fun _ _ => rfl)) pa_nil)))))
    (pss_cons (ps_set (i := 5) sc_law.nd rfl (Or.inl rfl) (pe_c c_is_value hr (by decide) rfl (pa_cons (pv 3) pa_nil)))
    (pss_one (ps_ret (pe_and (pe_callB call_isi (by rfl) nb.isinstance (by decide +kernel) (pa_cons (pv 5) (pa_cons (pe_bltn (v := .ty "bool") (u := .type "bool") (by rfl) nb.bool (by decide +kernel) rfl) pa_nil))) (pe_one (pe_cmpR op_eq (pv 5) (pe_c c__law_is_value hr (by decide) rfl (pa_cons (pv 3) (pa_cons pe_int pa_nil))) (nomark _)))))))))))), ?_⟩)
  obtain ⟨_, rfl, sl, ns, rfl, hs, h⟩ := h
  walk_at "rd"
  refine ⟨_, _, rfl, sl, ns, _, rfl, rfl, hs, by omega, fun z => ?_⟩
  walk_at "rd"
  refine ⟨_, _, rfl, sl, ns, _, rfl, rfl, hs, fun S H1 _ _ L1 _ _ => ?_⟩
  walk_at "rd"
  refine d_new L1 (by show 5 ≤ sizeLine; decide) fun p H2 L2 k2 _ _ g2 p2 => ?_
  walk_at "rd"
  refine ⟨_, _, _, _, rfl, S, p, ["null", "truth", "number", "bytes", "text"], true, 3, rfl, rfl, by decide, rfl, rfl, L2, p2, g2, by simp, fun v t H3 ok3 tp3 L3 k3 => ?_⟩
  walk_at "rd"
  have t3 := tp_tg (z := S.a) t.dat v (vl_wd 3 t ok3) tp3
  clear tp3
  refine d_pickI 6 24 L3 rfl (by show 2 ≤ sizeLine; decide) (by decide) rfl (all_cons ⟨_, rfl, by omega, by omega⟩ (all_cons ⟨_, rfl, by omega, by omega⟩ all_nil)) fun z4 H4 a4 b4 _ L4 k4 => ?_
  walk_at "rd"
  refine d_next L4 (by omega) fun r5 H5 a5 b5 L5 k5 => ?_
  walk_at "rd"
  refine ⟨_, _, _, rfl, S, 300, t.dat, r5, rfl, L5, t3.kp L3 (k4.trans k5), by decide, rfl, by omega, by omega, fun v6 d6 H6 t6 L6 k6 => ?_⟩
  walk_at "rd"
  refine d_next L6 (by decide) fun r7 H7 a7 b7 L7 k7 => ?_
  walk_at "rd"
  refine r_turns (by omega) (by omega) (fun i σ H' => LS K S H' ∧ ∃ (v u : V) (d : PyData) (y : Option V), Tg H' S.a (300 + i) v d ∧ σ = [some (.ref sl), some (.ref S.a), some u, some v, y, none]) ⟨L7, v6, v6, d6, none, t6.kp L6 k7, rfl⟩ ?_ ?_
  · rintro i σ H8 hi ⟨L8, v, u, d, y, t8, rfl⟩
    walk_at "rd"
    refine d_next L8 (by decide) fun r9 H9 a9 b9 L9 k9 => ?_
    walk_at "rd"
    refine ⟨_, _, _, rfl, S, 300 + i, d, (2 + r9).toNat, rfl, L9, t8.kp L8 k9, by omega, by omega, congrArg V.int (by omega), by omega, fun v' d' H10 t10 L10 k10 => ?_⟩
    walk_at "rd"
    exact ⟨L10, v', u, d', _, t10, rfl⟩
  · rintro σ H8 ⟨L8, v, u, d, y, t8, rfl⟩
    walk_at "rd"
    refine d_next L8 (by decide) fun r9 H9 a9 b9 L9 k9 => ?_
    walk_at "rd"
    refine d_next L9 (by decide) fun r10 H10 a10 b10 L10 k10 => ?_
    walk_at "rd"
    have t10 := (t8.kp L8 k9).kp L9 k10
    refine d_pickI 0 50 L10 rfl (by show 4 ≤ sizeLine; decide) (by decide) rfl (all_cons ⟨_, rfl, by omega, by omega⟩ (all_cons ⟨_, rfl, by omega, by omega⟩ (all_cons ⟨_, rfl, by omega, by omega⟩ (all_cons ⟨_, rfl, by omega, by omega⟩ all_nil)))) fun z11 H11 a11 b11 _ L11 k11 => ?_
    walk_at "rd"
    refine ⟨_, _, _, rfl, S, 300 + r7.toNat, d, z11, rfl, L11, t10.kp L10 k11, by omega, rfl, by omega, by omega, fun v' d' H12 t12 L12 k12 => ?_⟩
    walk_at "rd"
    refine ⟨_, rfl, S.a, _, d', t12, by omega, fun H13 s13 => ?_⟩
    walk_at "rd"
    refine i_bool (z := S.a) (n := 0) (.bl (isv 24 d')) ⟨true, rfl, ?_⟩
    walk_at "rd"
    refine ⟨_, _, rfl, S.a, _, d', 24, t12.same s13, by omega, rfl, by decide, fun H14 s14 => ?_⟩
    walk_at "rd"
    exact ⟨rfl, by rw [decide_eq_true rfl]; exact h _⟩
end

def d_parts : DefM := { ad := glAd "parts", nm := "parts", ql := "parts", pa := defArgs s_parts, bo := defBody s_parts, sc := defScope s_parts }
def d__is_integer : DefM := { ad := glAd "_is_integer", nm := "_is_integer", ql := "_is_integer", pa := defArgs s__is_integer, bo := defBody s__is_integer, sc := defScope s__is_integer }
def d__is_octet : DefM := { ad := glAd "_is_octet", nm := "_is_octet", ql := "_is_octet", pa := defArgs s__is_octet, bo := defBody s__is_octet, sc := defScope s__is_octet }
def d__is_point : DefM := { ad := glAd "_is_point", nm := "_is_point", ql := "_is_point", pa := defArgs s__is_point, bo := defBody s__is_point, sc := defScope s__is_point }
def d__is_text : DefM := { ad := glAd "_is_text", nm := "_is_text", ql := "_is_text", pa := defArgs s__is_text, bo := defBody s__is_text, sc := defScope s__is_text }
def d__are_entries : DefM := { ad := glAd "_are_entries", nm := "_are_entries", ql := "_are_entries", pa := defArgs s__are_entries, bo := defBody s__are_entries, sc := defScope s__are_entries }
def d__fits : DefM := { ad := glAd "_fits", nm := "_fits", ql := "_fits", pa := defArgs s__fits, bo := defBody s__fits, sc := defScope s__fits }
def d__is_number : DefM := { ad := glAd "_is_number", nm := "_is_number", ql := "_is_number", pa := defArgs s__is_number, bo := defBody s__is_number, sc := defScope s__is_number }
def d__is_sound : DefM := { ad := glAd "_is_sound", nm := "_is_sound", ql := "_is_sound", pa := defArgs s__is_sound, bo := defBody s__is_sound, sc := defScope s__is_sound }
def d_is_value : DefM := { ad := glAd "is_value", nm := "is_value", ql := "is_value", pa := defArgs s_is_value, bo := defBody s_is_value, sc := defScope s_is_value }
def d__law_cell : DefM := { ad := glAd "_law_cell", nm := "_law_cell", ql := "_law_cell", pa := defArgs s__law_cell, bo := defBody s__law_cell, sc := defScope s__law_cell }
def d__law_numbers : DefM := { ad := glAd "_law_numbers", nm := "_law_numbers", ql := "_law_numbers", pa := defArgs s__law_numbers, bo := defBody s__law_numbers, sc := defScope s__law_numbers }
def d__law_state : DefM := { ad := glAd "_law_state", nm := "_law_state", ql := "_law_state", pa := defArgs s__law_state, bo := defBody s__law_state, sc := defScope s__law_state }
def d__law_next : DefM := { ad := glAd "_law_next", nm := "_law_next", ql := "_law_next", pa := defArgs s__law_next, bo := defBody s__law_next, sc := defScope s__law_next }
def d__law_points : DefM := { ad := glAd "_law_points", nm := "_law_points", ql := "_law_points", pa := defArgs s__law_points, bo := defBody s__law_points, sc := defScope s__law_points }
def d__law_big : DefM := { ad := glAd "_law_big", nm := "_law_big", ql := "_law_big", pa := defArgs s__law_big, bo := defBody s__law_big, sc := defScope s__law_big }
def d__law_normal : DefM := { ad := glAd "_law_normal", nm := "_law_normal", ql := "_law_normal", pa := defArgs s__law_normal, bo := defBody s__law_normal, sc := defScope s__law_normal }
def d__law_number : DefM := { ad := glAd "_law_number", nm := "_law_number", ql := "_law_number", pa := defArgs s__law_number, bo := defBody s__law_number, sc := defScope s__law_number }
def d__law_octets : DefM := { ad := glAd "_law_octets", nm := "_law_octets", ql := "_law_octets", pa := defArgs s__law_octets, bo := defBody s__law_octets, sc := defScope s__law_octets }
def d__law_leaf : DefM := { ad := glAd "_law_leaf", nm := "_law_leaf", ql := "_law_leaf", pa := defArgs s__law_leaf, bo := defBody s__law_leaf, sc := defScope s__law_leaf }
def d__law_value : DefM := { ad := glAd "_law_value", nm := "_law_value", ql := "_law_value", pa := defArgs s__law_value, bo := defBody s__law_value, sc := defScope s__law_value }
def d__law_is_integer : DefM := { ad := glAd "_law_is_integer", nm := "_law_is_integer", ql := "_law_is_integer", pa := defArgs s__law_is_integer, bo := defBody s__law_is_integer, sc := defScope s__law_is_integer }
def d__law_within : DefM := { ad := glAd "_law_within", nm := "_law_within", ql := "_law_within", pa := defArgs s__law_within, bo := defBody s__law_within, sc := defScope s__law_within }
def d__law_are_points : DefM := { ad := glAd "_law_are_points", nm := "_law_are_points", ql := "_law_are_points", pa := defArgs s__law_are_points, bo := defBody s__law_are_points, sc := defScope s__law_are_points }
def d__law_is_map : DefM := { ad := glAd "_law_is_map", nm := "_law_is_map", ql := "_law_is_map", pa := defArgs s__law_is_map, bo := defBody s__law_is_map, sc := defScope s__law_is_map }
def d__law_is_leaf : DefM := { ad := glAd "_law_is_leaf", nm := "_law_is_leaf", ql := "_law_is_leaf", pa := defArgs s__law_is_leaf, bo := defBody s__law_is_leaf, sc := defScope s__law_is_leaf }
def d__law_is_value : DefM := { ad := glAd "_law_is_value", nm := "_law_is_value", ql := "_law_is_value", pa := defArgs s__law_is_value, bo := defBody s__law_is_value, sc := defScope s__law_is_value }
def d__law_around : DefM := { ad := glAd "_law_around", nm := "_law_around", ql := "_law_around", pa := defArgs s__law_around, bo := defBody s__law_around, sc := defScope s__law_around }
def d__law_odd : DefM := { ad := glAd "_law_odd", nm := "_law_odd", ql := "_law_odd", pa := defArgs s__law_odd, bo := defBody s__law_odd, sc := defScope s__law_odd }
def d__law_changed : DefM := { ad := glAd "_law_changed", nm := "_law_changed", ql := "_law_changed", pa := defArgs s__law_changed, bo := defBody s__law_changed, sc := defScope s__law_changed }
def d_law : DefM := { ad := glAd "law", nm := "law", ql := "law", pa := defArgs s_law, bo := defBody s_law, sc := defScope s_law }
def fn : List DefM := [d_parts, d__is_integer, d__is_octet, d__is_point, d__is_text, d__are_entries, d__fits, d__is_number, d__is_sound, d_is_value, d__law_cell, d__law_numbers, d__law_state, d__law_next, d__law_points, d__law_big, d__law_normal, d__law_number, d__law_octets, d__law_leaf, d__law_value, d__law_is_integer, d__law_within, d__law_are_points, d__law_is_map, d__law_is_leaf, d__law_is_value, d__law_around, d__law_odd, d__law_changed, d_law]
def fa : List He.Fa := [.glo "parts", .glo "_is_integer", .glo "_is_octet", .glo "_is_point", .glo "_is_text", .glo "_are_entries", .glo "_fits", .glo "_is_number", .glo "_is_sound", .glo "is_value", .glo "_law_cell", .glo "_law_numbers", .glo "_law_state", .glo "_law_next", .glo "_law_points", .glo "_law_big", .glo "_law_normal", .glo "_law_number", .glo "_law_octets", .glo "_law_leaf", .glo "_law_value", .glo "_law_is_integer", .glo "_law_within", .glo "_law_are_points", .glo "_law_is_map", .glo "_law_is_leaf", .glo "_law_is_value", .glo "_law_around", .glo "_law_odd", .glo "_law_changed", .glo "law", .free "tuple", .free "isinstance", .free "len", .free "str", .free "all", .free "int", .free "bool", .free "abs", .free "range", .free "sorted", .free "list", .int "DEEPEST" 24, .glo "LENGTHS"]
def ex (K : Frg) : Bool := digB K && (tabV K (He.ga K "LENGTHS") [.int 1, .int 2, .int 3, .int 2, .int 2, .int 2, .int 2])
def ts : List TabX := [("LENGTHS", ([.inr "null", .inr "truth", .inr "number", .inr "bytes", .inr "text", .inr "list", .inr "map"] : List Key).map Sum.inl)]
abbrev RR : PySem.W.OpenRow := PySem.W.OpenLaw.row PySem.Challenge.rw_formsalike_k00_values_told_apart
def loose : List PySem.Str := (["DEEPEST", "parts", "LENGTHS", "is_value", "_is_sound", "_fits", "_is_integer", "_is_number", "_is_octet", "_is_point", "_is_text", "_are_entries", "_law_cell", "_law_numbers", "_law_state", "_law_next", "_law_big", "_law_normal", "_law_number", "_law_points", "_law_octets", "_law_leaf", "_law_value", "_law_is_integer", "_law_within", "_law_are_points", "_law_is_map", "_law_is_leaf", "_law_is_value", "_law_around"] : List PySem.Str) ++ (["_law_odd", "_law_changed"] : List PySem.Str)
abbrev hk : PySem.W.Hook := hookX 5 fa ex fn ts
def ob (s : PySem.W.SharedT) : AlX := obsX fa ex fn ts (frM 5 (HandSHeadRun.getT s))
theorem ob_eq (s : PySem.W.SharedT) : ob s = hk.obs s.abs := obsX_eq (HandSHeadRun.getT_eq s)
theorem run (w : World) : HandSHeadRun.RunEq RR (PySem.W.view RR.prog [35]) hk ob 6000 loose w := by
  rw [← setF_eq w]
  generalize w.params.followText "special-get-raises" = b
  cases b
  · intro os
    kernel_rfl
  · intro os
    kernel_rfl
theorem facts {P : Program} {w : World} {K : PySem.W.Frag} {h : Heap} {mg : Str → Option Value} {f : Addr} (X : K.In h) (G : h.Ns mainGlobals mg) (hfa : mg ("law" : Str) = some (.ref f)) (c : SaysX fa ex fn ts w K) :
    ∃ fd : FuncData, (∀ (s : Shared) (v : Value), BindsTo s fd ⟨[v], []⟩ [("script", v)]) ∧ ∀ base : Heap, K.In base → base.Ns mainGlobals mg → FnOk P w K mg base CX0 66 f fd ["script"] (sp_law K) := by
  obtain ⟨fd_parts, F_parts⟩ := c.m.def_ 0 (d := d_parts) rfl
  obtain ⟨fd__is_integer, F__is_integer⟩ := c.m.def_ 1 (d := d__is_integer) rfl
  obtain ⟨fd__is_octet, F__is_octet⟩ := c.m.def_ 2 (d := d__is_octet) rfl
  obtain ⟨fd__is_point, F__is_point⟩ := c.m.def_ 3 (d := d__is_point) rfl
  obtain ⟨fd__is_text, F__is_text⟩ := c.m.def_ 4 (d := d__is_text) rfl
  obtain ⟨fd__are_entries, F__are_entries⟩ := c.m.def_ 5 (d := d__are_entries) rfl
  obtain ⟨fd__fits, F__fits⟩ := c.m.def_ 6 (d := d__fits) rfl
  obtain ⟨fd__is_number, F__is_number⟩ := c.m.def_ 7 (d := d__is_number) rfl
  obtain ⟨fd__is_sound, F__is_sound⟩ := c.m.def_ 8 (d := d__is_sound) rfl
  obtain ⟨fd_is_value, F_is_value⟩ := c.m.def_ 9 (d := d_is_value) rfl
  obtain ⟨fd__law_cell, F__law_cell⟩ := c.m.def_ 10 (d := d__law_cell) rfl
  obtain ⟨fd__law_numbers, F__law_numbers⟩ := c.m.def_ 11 (d := d__law_numbers) rfl
  obtain ⟨fd__law_state, F__law_state⟩ := c.m.def_ 12 (d := d__law_state) rfl
  obtain ⟨fd__law_next, F__law_next⟩ := c.m.def_ 13 (d := d__law_next) rfl
  obtain ⟨fd__law_points, F__law_points⟩ := c.m.def_ 14 (d := d__law_points) rfl
  obtain ⟨fd__law_big, F__law_big⟩ := c.m.def_ 15 (d := d__law_big) rfl
  obtain ⟨fd__law_normal, F__law_normal⟩ := c.m.def_ 16 (d := d__law_normal) rfl
  obtain ⟨fd__law_number, F__law_number⟩ := c.m.def_ 17 (d := d__law_number) rfl
  obtain ⟨fd__law_octets, F__law_octets⟩ := c.m.def_ 18 (d := d__law_octets) rfl
  obtain ⟨fd__law_leaf, F__law_leaf⟩ := c.m.def_ 19 (d := d__law_leaf) rfl
  obtain ⟨fd__law_value, F__law_value⟩ := c.m.def_ 20 (d := d__law_value) rfl
  obtain ⟨fd__law_is_integer, F__law_is_integer⟩ := c.m.def_ 21 (d := d__law_is_integer) rfl
  obtain ⟨fd__law_within, F__law_within⟩ := c.m.def_ 22 (d := d__law_within) rfl
  obtain ⟨fd__law_are_points, F__law_are_points⟩ := c.m.def_ 23 (d := d__law_are_points) rfl
  obtain ⟨fd__law_is_map, F__law_is_map⟩ := c.m.def_ 24 (d := d__law_is_map) rfl
  obtain ⟨fd__law_is_leaf, F__law_is_leaf⟩ := c.m.def_ 25 (d := d__law_is_leaf) rfl
  obtain ⟨fd__law_is_value, F__law_is_value⟩ := c.m.def_ 26 (d := d__law_is_value) rfl
  obtain ⟨fd__law_around, F__law_around⟩ := c.m.def_ 27 (d := d__law_around) rfl
  obtain ⟨fd__law_odd, F__law_odd⟩ := c.m.def_ 28 (d := d__law_odd) rfl
  obtain ⟨fd__law_changed, F__law_changed⟩ := c.m.def_ 29 (d := d__law_changed) rfl
  obtain ⟨fd_law, F_law⟩ := c.m.def_ 30 (d := d_law) rfl
  have m_parts := He.glo_ok X G (x := "parts") (c.m.fact 0 rfl)
  have m__is_integer := He.glo_ok X G (x := "_is_integer") (c.m.fact 1 rfl)
  have m__is_octet := He.glo_ok X G (x := "_is_octet") (c.m.fact 2 rfl)
  have m__is_point := He.glo_ok X G (x := "_is_point") (c.m.fact 3 rfl)
  have m__is_text := He.glo_ok X G (x := "_is_text") (c.m.fact 4 rfl)
  have m__are_entries := He.glo_ok X G (x := "_are_entries") (c.m.fact 5 rfl)
  have m__fits := He.glo_ok X G (x := "_fits") (c.m.fact 6 rfl)
  have m__is_number := He.glo_ok X G (x := "_is_number") (c.m.fact 7 rfl)
  have m__is_sound := He.glo_ok X G (x := "_is_sound") (c.m.fact 8 rfl)
  have m_is_value := He.glo_ok X G (x := "is_value") (c.m.fact 9 rfl)
  have m__law_cell := He.glo_ok X G (x := "_law_cell") (c.m.fact 10 rfl)
  have m__law_numbers := He.glo_ok X G (x := "_law_numbers") (c.m.fact 11 rfl)
  have m__law_state := He.glo_ok X G (x := "_law_state") (c.m.fact 12 rfl)
  have m__law_next := He.glo_ok X G (x := "_law_next") (c.m.fact 13 rfl)
  have m__law_points := He.glo_ok X G (x := "_law_points") (c.m.fact 14 rfl)
  have m__law_big := He.glo_ok X G (x := "_law_big") (c.m.fact 15 rfl)
  have m__law_normal := He.glo_ok X G (x := "_law_normal") (c.m.fact 16 rfl)
  have m__law_number := He.glo_ok X G (x := "_law_number") (c.m.fact 17 rfl)
  have m__law_octets := He.glo_ok X G (x := "_law_octets") (c.m.fact 18 rfl)
  have m__law_leaf := He.glo_ok X G (x := "_law_leaf") (c.m.fact 19 rfl)
  have m__law_value := He.glo_ok X G (x := "_law_value") (c.m.fact 20 rfl)
  have m__law_is_integer := He.glo_ok X G (x := "_law_is_integer") (c.m.fact 21 rfl)
  have m__law_within := He.glo_ok X G (x := "_law_within") (c.m.fact 22 rfl)
  have m__law_are_points := He.glo_ok X G (x := "_law_are_points") (c.m.fact 23 rfl)
  have m__law_is_map := He.glo_ok X G (x := "_law_is_map") (c.m.fact 24 rfl)
  have m__law_is_leaf := He.glo_ok X G (x := "_law_is_leaf") (c.m.fact 25 rfl)
  have m__law_is_value := He.glo_ok X G (x := "_law_is_value") (c.m.fact 26 rfl)
  have m__law_around := He.glo_ok X G (x := "_law_around") (c.m.fact 27 rfl)
  have m__law_odd := He.glo_ok X G (x := "_law_odd") (c.m.fact 28 rfl)
  have m__law_changed := He.glo_ok X G (x := "_law_changed") (c.m.fact 29 rfl)
  have m_law := He.glo_ok X G (x := "law") (c.m.fact 30 rfl)
  have xx : ex K = true := c.m.more
  have x0 := (both xx).1
  replace xx := (both xx).2
  have x1 := xx
  have nb : Nm w K mg := ⟨He.free_ok X G (c.m.fact 31 rfl),
    He.free_ok X G (c.m.fact 32 rfl),
    He.free_ok X G (c.m.fact 33 rfl),
    He.free_ok X G (c.m.fact 34 rfl),
    He.free_ok X G (c.m.fact 35 rfl),
    He.free_ok X G (c.m.fact 36 rfl),
    He.free_ok X G (c.m.fact 37 rfl),
    He.free_ok X G (c.m.fact 38 rfl),
    He.free_ok X G (c.m.fact 39 rfl),
    He.free_ok X G (c.m.fact 40 rfl),
    He.free_ok X G (c.m.fact 41 rfl),
    conI X G (c.m.fact 42 rfl),
    ⟨.ref _, _, He.glo_ok X G (c.m.fact 43 rfl), rfl, _, rfl, tab_ok (c.tab 0 rfl) x1 (by decide +kernel)⟩,
    digK_ok x0⟩
  have e := hfa.symm.trans m_law
  cases e
  have b := FunD.bindsA (ps := ["script"]) F_law fun _ _ _ _ _ _ us hl => match us, hl with | [_], _ => rfl
  refine ⟨fd_law, fun s v => b s [v] rfl, fun base _ _ => ?_⟩
  have c_parts := ok_parts (P := P) (w := w) (base := base) F_parts m_parts nb
  have c__is_integer := ok__is_integer (P := P) (w := w) (base := base) F__is_integer m__is_integer nb
  have c__is_octet := ok__is_octet (P := P) (w := w) (base := base) F__is_octet m__is_octet nb c__is_integer
  have c__is_point := ok__is_point (P := P) (w := w) (base := base) F__is_point m__is_point nb c__is_integer
  have c__is_text := ok__is_text (P := P) (w := w) (base := base) F__is_text m__is_text nb c__is_point
  have c__are_entries := ok__are_entries (P := P) (w := w) (base := base) F__are_entries m__are_entries nb c__is_text
  have c__fits := ok__fits (P := P) (w := w) (base := base) F__fits m__fits nb c__is_octet c__is_text c__are_entries
  have c__is_number := ok__is_number (P := P) (w := w) (base := base) F__is_number m__is_number nb c__is_integer
  have c__is_sound := ok__is_sound (P := P) (w := w) (base := base) F__is_sound m__is_sound nb c__fits c__is_number
  have c_is_value := ok_is_value (P := P) (w := w) (base := base) F_is_value m_is_value nb c_parts c__is_sound
  have c__law_cell := ok__law_cell (P := P) (w := w) (base := base) F__law_cell m__law_cell nb
  have c__law_numbers := ok__law_numbers (P := P) (w := w) (base := base) F__law_numbers m__law_numbers nb
  have c__law_state := ok__law_state (P := P) (w := w) (base := base) F__law_state m__law_state nb c__law_cell c__law_numbers
  have c__law_next := ok__law_next (P := P) (w := w) (base := base) F__law_next m__law_next nb
  have c__law_points := ok__law_points (P := P) (w := w) (base := base) F__law_points m__law_points nb c__law_next
  have c__law_big := ok__law_big (P := P) (w := w) (base := base) F__law_big m__law_big nb c__law_cell c__law_next
  have c__law_normal := ok__law_normal (P := P) (w := w) (base := base) F__law_normal m__law_normal nb
  have c__law_number := ok__law_number (P := P) (w := w) (base := base) F__law_number m__law_number nb c__law_next c__law_big c__law_normal
  have c__law_octets := ok__law_octets (P := P) (w := w) (base := base) F__law_octets m__law_octets nb c__law_next
  have c__law_leaf := ok__law_leaf (P := P) (w := w) (base := base) F__law_leaf m__law_leaf nb c__law_next c__law_number c__law_points c__law_octets
  have c__law_value := rec__law_value (P := P) (w := w) (base := base) F__law_value m__law_value nb c__law_next c__law_points c__law_leaf 5
  have c__law_is_integer := ok__law_is_integer (P := P) (w := w) (base := base) F__law_is_integer m__law_is_integer nb
  have c__law_within := ok__law_within (P := P) (w := w) (base := base) F__law_within m__law_within nb c__law_is_integer
  have c__law_are_points := ok__law_are_points (P := P) (w := w) (base := base) F__law_are_points m__law_are_points nb c__law_within
  have c__law_is_leaf := ok__law_is_leaf (P := P) (w := w) (base := base) F__law_is_leaf m__law_is_leaf nb c__law_is_integer c__law_within c__law_are_points
  have c__law_is_value := rec__law_is_value (P := P) (w := w) (base := base) F__law_is_map m__law_is_map F__law_is_value m__law_is_value nb c__law_are_points c__law_is_leaf 26
  have c__law_around := ok__law_around (P := P) (w := w) (base := base) F__law_around m__law_around nb c__law_next
  have c__law_odd := ok__law_odd (P := P) (w := w) (base := base) F__law_odd m__law_odd nb c__law_next
  have c__law_changed := rec__law_changed (P := P) (w := w) (base := base) F__law_changed m__law_changed nb c__law_next c__law_is_integer c__law_odd 62
  exact ok_law F_law nb c_is_value c__law_cell c__law_state c__law_next c__law_value c__law_is_value c__law_around c__law_changed
end Fa
open PySem PySem.W PySem.Calls PyProof.Rows
theorem PySem.Challenge.cw_formsalike_k00_values_told_apart_holds : PySem.Challenge.rw_formsalike_k00_values_told_apart.Holds := by
  w_on; o_law
  refine HandSHeadRun.head_any (r := OpenLaw.row PySem.Challenge.rw_formsalike_k00_values_told_apart) (q := view (OpenLaw.row PySem.Challenge.rw_formsalike_k00_values_told_apart).prog [35]) (H := Fa.hk) (ob := Fa.ob) (M := 6000) (loose := Fa.loose) (d := HandSHeadRun.topDef (OpenLaw.row PySem.Challenge.rw_formsalike_k00_values_told_apart).prog 35) (kwd := []) Fa.ob_eq
    (by kernel_rfl) (fun s => by kernel_rfl) Fa.run (by kernel_rfl) (by kernel_rfl) (by kernel_rfl) (by rfl) (by first | assumption | decide +kernel) (by decide +kernel) ⟨rfl, rfl, rfl, rfl, rfl, by decide +kernel⟩ ?hw ?hc
  case hw => w_witness2
  case hc =>
    refine L2.walk_ofE (l := PySem.Challenge.rw_formsalike_k00_values_told_apart) (n := 63) (k := 66) (x := "script") (CX := L2.CX0) rfl (by decide) (by kernel_rfl) ⟨rfl, by decide, by decide⟩ ?F (fun _ _ _ _ z => z)
    intro w mg fa h Y G hmg0
    obtain ⟨K, KX, c⟩ := Y
    have hmg : mg ("law" : PySem.Str) = some (.ref fa) := by
      have e : (HandSHeadRun.topDef (OpenLaw.row PySem.Challenge.rw_formsalike_k00_values_told_apart).prog 35).name = ("law" : PySem.Str) := by kernel_rfl
      rw [← e]
      exact hmg0
    obtain ⟨fd, hb, hF⟩ := Fa.facts (P := (PySem.Challenge.rw_formsalike_k00_values_told_apart).prog) (w := w) KX G hmg c
    exact ⟨K, fd, Fa.sp_law K, KX, hb, fun H a ns hl _ hS => ⟨_, rfl, a, ns, rfl, hS, fun _ => rfl⟩, hF⟩
