import PyProof.Rows.All
import Wide.All
import OpenK.AllK
import Wide.FinOn
import KE.KStateDown
import KE.GoesMore
import KE.GoesEnum
import HandS.Iter
import HandS.TupLe
import KE.KEqSeq
import KE.KEqDeep
import HandS.ForMost
import HandS.Exc
import HandS.More
import HandS.Wide
import HandS.Property
import HandS.WideBits
import HandS.Conv
import HandS.Codes
import HandS.IsInst
import HandS.Flow
import HandS.Defaults
import HandS.EndBits
import HandS.Head0
import HandS.Head1
import HandS.Head2
import HandS.HeadEnd
import HandS.HeadHook1
import HandS.HeadHook2
import HandS.NoneIn
import HandS.TupAny
import PySem.Challenge.RW_formsalike_k08_base64
set_option Elab.async false
set_option linter.all false
set_option maxRecDepth 100000
set_option maxHeartbeats 4000000
namespace Fa
open PySem PySem.Spec L2 SX
open PyProof.Rows (envOfC)
open C8 (Cal pe_c Mak pe_mk Met pe_mt pe_mt0 pe_gc tCut pss_cut)
def top (i : Nat) : Stmt := PySem.Challenge.pw_formsalike_k08_base64.main.body.getD i (.Pass ⟨0, 0, 0, 0⟩)

/-! ### readings, a step each -/
section
variable {σ : St} {H : Hp} {n b c : St → Hp → Prop} {r : VK} {Q : VK} {K : PySem.W.Frag}
theorem r_seq {t u : TS} (h : t ⟨u ⟨n, r, b, c⟩, r, b, c⟩ σ H) : tSeq t u ⟨n, r, b, c⟩ σ H := h
theorem r_asg {te : TE} {g : TG} (h : te σ H fun x H1 => g x σ H1 n) : tAsg te g ⟨n, r, b, c⟩ σ H := h
theorem r_name {i : Nat} {v : V} {R : St → Hp → Prop} (h : R (σ.set i (some v)) H) : gName i v σ H R := h
theorem r_var {i : Nat} {v : V} (e : σ[i]? = some (some v)) (h : Q v H) : tVar i σ H Q := ⟨v, e, h⟩
theorem r_c {v : V} (h : Q v H) : tC v σ H Q := h
theorem r_op {r : R2} {ta tb : TE} (h : ta σ H fun x H1 => tb σ H1 fun y H2 => r x y H2 Q) : tOp r ta tb σ H Q := h
theorem r_un {r : V → Hp → VK → Prop} {ta : TE} (h : ta σ H fun x H1 => r x H1 Q) : tUn r ta σ H Q := h
theorem r_I0 {g : Int → Int → V} {i j : Int} (h : Q (g i j) H) : rI0 g (.int i) (.int j) H Q := ⟨i, j, rfl, rfl, h⟩
theorem r_I {C : Int → Int → Prop} {g : Int → Int → V} {i j : Int} (c : C i j) (h : Q (g i j) H) : rI C g (.int i) (.int j) H Q := ⟨i, j, rfl, rfl, c, h⟩
theorem r_U {g : Int → V} {i : Int} (h : Q (g i) H) : rU g (.int i) H Q := ⟨i, rfl, h⟩
theorem r_eqI {i j : Int} (h : Q (.bl (decide (i = j))) H) : rEq (.int i) (.int j) H Q := by
  have e : decide (V.int i = V.int j) = decide (i = j) := by simp
  exact ⟨rfl, by rw [e]; exact h⟩
theorem r_neI {i j : Int} (h : Q (.bl (!decide (i = j))) H) : rNe (.int i) (.int j) H Q := by
  have e : decide (V.int i = V.int j) = decide (i = j) := by simp
  exact ⟨rfl, by rw [e]; exact h⟩
theorem r_eqS {i j : Str} (h : Q (.bl (decide (i = j))) H) : rEq (.str i) (.str j) H Q := by
  have e : decide (V.str i = V.str j) = decide (i = j) := by simp
  exact ⟨rfl, by rw [e]; exact h⟩
theorem r_neS {i j : Str} (h : Q (.bl (!decide (i = j))) H) : rNe (.str i) (.str j) H Q := by
  have e : decide (V.str i = V.str j) = decide (i = j) := by simp
  exact ⟨rfl, by rw [e]; exact h⟩
theorem r_nil {R : List V → Hp → Prop} (h : R [] H) : tNil σ H R := h
theorem r_cons {te : TE} {t : TA} {R : List V → Hp → Prop} (h : te σ H fun x H1 => t σ H1 fun xs H2 => R (x :: xs) H2) : tCons te t σ H R := h
theorem r_drop {te : TE} (h : te σ H fun _ H1 => n σ H1) : tDrop te ⟨n, r, b, c⟩ σ H := h
theorem r_ret {te : TE} (h : te σ H r) : tRet te ⟨n, r, b, c⟩ σ H := h
theorem r_retN (h : r .non H) : tRetN ⟨n, r, b, c⟩ σ H := h
theorem r_next (h : n σ H) : tNext ⟨n, r, b, c⟩ σ H := h
theorem r_brk (h : b σ H) : tBreak ⟨n, r, b, c⟩ σ H := h
theorem r_if {e : TT} {t u : TS} (h : e σ H fun k H1 => if k = true then t ⟨n, r, b, c⟩ σ H1 else u ⟨n, r, b, c⟩ σ H1) : tIfS e t u ⟨n, r, b, c⟩ σ H := h
theorem r_ifE {c : TT} {ta tb : TE} (h : c σ H fun b H1 => if b = true then ta σ H1 Q else tb σ H1 Q) : tIf c ta tb σ H Q := h
theorem r_test {te : TE} {R : Bool → Hp → Prop} (h : te σ H fun x H' => ∃ k, x = .bl k ∧ R k H') : tTest te σ H R := h
theorem r_B {te : TE} {R : Bool → Hp → Prop} (h : te σ H fun x H' => ∃ k, x = .bl k ∧ R k H') : tB te σ H R := h
theorem r_bl {b : Bool} {R : Bool → Prop} (h : R b) : ∃ k, V.bl b = .bl k ∧ R k := ⟨b, rfl, h⟩
theorem r_and {t u : TT} {R : Bool → Hp → Prop} (h : t σ H fun c H1 => if c = true then u σ H1 R else R false H1) : tAnd t u σ H R := h
theorem r_or {t u : TT} {R : Bool → Hp → Prop} (h : t σ H fun c H1 => if c = true then R true H1 else u σ H1 R) : tOr t u σ H R := h
theorem r_not {t : TT} {R : Bool → Hp → Prop} (h : t σ H fun c H1 => R (!c) H1) : tNot t σ H R := h
theorem r_andV {ta tb : TE} (h : ta σ H fun x H1 => ∃ c, x = .bl c ∧ if c = true then tb σ H1 Q else Q (.bl false) H1) : tAndV ta tb σ H Q := h
theorem r_orV {ta tb : TE} (h : ta σ H fun x H1 => ∃ c, x = .bl c ∧ if c = true then Q (.bl true) H1 else tb σ H1 Q) : tOrV ta tb σ H Q := h
theorem r_notV {ta : TE} (h : ta σ H fun x H1 => ∃ c, x = .bl c ∧ Q (.bl (!c)) H1) : tNotV ta σ H Q := h
theorem r_chain {r r' : R2} {ta tb tc : TE} (h : ta σ H fun x H1 => tb σ H1 fun y H2 => r x y H2 fun z H3 => ∃ k, z = .bl k ∧ (if k = true then tc σ H3 fun w' H4 => r' y w' H4 Q else Q (.bl false) H3)) : tChain r r' ta tb tc σ H Q := h
theorem r_tup {t : TA} (h : t σ H fun xs H1 => xs.length ≤ sizeLine ∧ ∀ p, H1 p = none → Q (.ref p) (upd H1 p (.tup xs))) : tTup t σ H Q := h
theorem r_lst {t : TA} (h : t σ H fun xs H1 => xs.length ≤ sizeLine ∧ ∀ p, H1 p = none → Q (.ref p) (upd H1 p (.lst xs))) : tLst t σ H Q := h
theorem r_call {sp : Sp} {dvs : List V} {E : XK} {t : TA} (h : t σ H fun vs H1 => sp (vs ++ dvs) H1 Q E) : tCall sp dvs E t σ H Q := h
theorem r_CB {r : List V → Hp → VK → Prop} {t : TA} (h : t σ H fun vs H1 => r vs H1 Q) : tCB r t σ H Q := h
theorem r_ixL {p : Addr} {xs : List V} {i : Int} {v : V} (hs : SqL K H p xs) (e : atI xs i = some v) (h : Q v H) : rIxL K (.ref p) (.int i) H Q := ⟨p, xs, i, v, rfl, rfl, hs, e, h⟩
theorem r_ixT {p : Addr} {xs : List V} {i : Int} {v : V} (hs : SqT K H p xs) (e : atI xs i = some v) (h : Q v H) : rIxT K (.ref p) (.int i) H Q := ⟨p, xs, i, v, rfl, rfl, hs, e, h⟩
theorem r_ite {p : Prop} [Decidable p] {A B : Prop} (h1 : p → A) (h2 : ¬ p → B) : if decide p = true then A else B := by
  by_cases c : p
  · rw [if_pos (decide_eq_true c)]
    exact h1 c
  · rw [if_neg (by simp [c])]
    exact h2 c
theorem r_iten {p : Prop} [Decidable p] {A B : Prop} (h1 : ¬ p → A) (h2 : p → B) : if (!decide p) = true then A else B := by
  by_cases c : p
  · rw [if_neg (by simp [c])]
    exact h2 c
  · rw [if_pos (by simp [c])]
    exact h1 c
theorem r_itep {p : Prop} [Decidable p] {A B : Prop} (c : p) (h : A) : if decide p = true then A else B := by
  rw [if_pos (decide_eq_true c)]
  exact h
theorem r_iteN {p : Prop} [Decidable p] {A B : Prop} (c : ¬ p) (h : B) : if decide p = true then A else B := by
  rw [if_neg (by simp [c])]
  exact h
theorem r_iteF {A B : Prop} (h : B) : if false = true then A else B := by
  rw [if_neg Bool.false_ne_true]
  exact h
theorem r_iteT {A B : Prop} (h : A) : if true = true then A else B := by
  rw [if_pos rfl]
  exact h
theorem r_iteNT {A B : Prop} (h : B) : if (!true) = true then A else B := by
  rw [if_neg (by decide)]
  exact h
theorem r_iteNF {A B : Prop} (h : A) : if (!false) = true then A else B := by
  rw [if_pos (by decide)]
  exact h
theorem r_no {p : Prop} [Decidable p] {A B : Prop} (c : p) (h : B) : if (!decide p) = true then A else B := by
  rw [if_neg (by simp [c])]
  exact h
/-- a for over a written range(m) -/
theorem r_forN {v : Int} {g : TG} {tb : TS} (m : Nat) (e : v = (m : Int)) (hn : m < 2 ^ 62) (Pv : Nat → St → Hp → Prop) (h0 : Pv 0 σ H)
    (hs : ∀ (i : Nat) σ H, i < m → Pv i σ H → g (.int (i : Int)) σ H fun σ2 H2 => tb ⟨Pv (i + 1), r, n, Pv (i + 1)⟩ σ2 H2) (hd : ∀ σ H, Pv m σ H → n σ H) : tFor (iRng1 (tCons (tC (.int v)) tNil)) g tb ⟨n, r, b, c⟩ σ H := by
  subst e
  refine ⟨(m : Int), rfl, by omega, by omega, for_range Pv h0 (fun i σ H hi p => ?_) hd⟩
  rw [Int.zero_add]
  exact hs i σ H (by omega) p
/-- a for over range(v), v in a slot -/
theorem r_forV {v : Int} {k : Nat} {g : TG} {tb : TS} (e : σ[k]? = some (some (.int v))) (h1 : -(2 ^ 62) ≤ v) (h2 : v < 2 ^ 62) (Pv : Nat → St → Hp → Prop) (h0 : Pv 0 σ H)
    (hs : ∀ (i : Nat) σ H, (i : Int) < v → Pv i σ H → g (.int (i : Int)) σ H fun σ2 H2 => tb ⟨Pv (i + 1), r, n, Pv (i + 1)⟩ σ2 H2) (hd : ∀ σ H, Pv v.toNat σ H → n σ H) : tFor (iRng1 (tCons (tVar k) tNil)) g tb ⟨n, r, b, c⟩ σ H := by
  refine ⟨_, e, v, rfl, h1, h2, for_range Pv h0 (fun i σ H hi p => ?_) hd⟩
  rw [Int.zero_add]
  exact hs i σ H (by omega) p
/-- a for over range(e), the turns behind its reading -/
theorem r_for {wi : TI} {g : TG} {tb : TS} (h : wi σ H fun J H1 => ∃ W : Nat → Nat → St → Hp → Prop, (∃ m, W 0 m σ H1) ∧ ∀ i m σ H, W i m σ H →
    (J.stop i H ∧ n σ H) ∨ (J.go i H ∧ ∃ N : St → Hp → Prop, (∀ σ' H', N σ' H' → ∃ m', m' < m ∧ W (i + 1) m' σ' H') ∧ ∀ x H', J.yld i H x H' → g x σ H' fun σ2 H2 => tb ⟨N, r, n, N⟩ σ2 H2)) : tFor wi g tb ⟨n, r, b, c⟩ σ H := h
theorem r_rng1 {ta : TA} {R : It → Hp → Prop} (h : ta σ H fun vs H1 => ∃ j : Int, vs = [.int j] ∧ -(2 ^ 62) ≤ j ∧ j < 2 ^ 62 ∧ R (Itr 0 j.toNat) H1) : iRng1 ta σ H R := h
/-- .. the turns -/
theorem r_turns {j : Int} {g : TG} {tb : TS} (h1 : -(2 ^ 62) ≤ j) (h2 : j < 2 ^ 62) (Pv : Nat → St → Hp → Prop) (h0 : Pv 0 σ H)
    (hs : ∀ (i : Nat) σ H, (i : Int) < j → Pv i σ H → g (.int (i : Int)) σ H fun σ2 H2 => tb ⟨Pv (i + 1), r, n, Pv (i + 1)⟩ σ2 H2) (hd : ∀ σ H, Pv j.toNat σ H → n σ H) :
    -(2 ^ 62) ≤ j ∧ j < 2 ^ 62 ∧ ∃ W : Nat → Nat → St → Hp → Prop, (∃ m, W 0 m σ H) ∧ ∀ i m σ H, W i m σ H →
    ((Itr 0 j.toNat).stop i H ∧ n σ H) ∨ ((Itr 0 j.toNat).go i H ∧ ∃ N : St → Hp → Prop, (∀ σ' H', N σ' H' → ∃ m', m' < m ∧ W (i + 1) m' σ' H') ∧ ∀ x H', (Itr 0 j.toNat).yld i H x H' → g x σ H' fun σ2 H2 => tb ⟨N, r, n, N⟩ σ2 H2) := by
  refine ⟨h1, h2, for_range (D := ⟨n, r, fun _ _ => False, fun _ _ => False⟩) Pv h0 (fun i σ H hi p => ?_) hd⟩
  rw [Int.zero_add]
  exact hs i σ H (by omega) p
theorem r_while {e : TT} {tb : TS} (W : Nat → St → Hp → Prop) (m : Nat) (h0 : W m σ H)
    (hs : ∀ m σ H, W m σ H → e σ H fun k H1 => if k = true then ∃ N : St → Hp → Prop, (∀ σ' H', N σ' H' → ∃ m', m' < m ∧ W m' σ' H') ∧ tb ⟨N, r, n, N⟩ σ H1 else n σ H1) : tWhile e tb ⟨n, r, b, c⟩ σ H := ⟨W, ⟨m, h0⟩, hs⟩
theorem r_turn {tb : TS} {W : Nat → St → Hp → Prop} {m : Nat} (h : tb ⟨fun σ' H' => ∃ m', m' < m ∧ W m' σ' H', r, n, fun σ' H' => ∃ m', m' < m ∧ W m' σ' H'⟩ σ H) :
    ∃ N : St → Hp → Prop, (∀ σ' H', N σ' H' → ∃ m', m' < m ∧ W m' σ' H') ∧ tb ⟨N, r, n, N⟩ σ H := ⟨_, fun _ _ h => h, h⟩
end
/-! ### promises by the number of arguments -/
def sp1 (f : V → Hp → VK → XK → Prop) : Sp := fun vs H Q E => ∃ a, vs = [a] ∧ f a H Q E
def sp2 (f : V → V → Hp → VK → XK → Prop) : Sp := fun vs H Q E => ∃ a b, vs = [a, b] ∧ f a b H Q E
def sp3 (f : V → V → V → Hp → VK → XK → Prop) : Sp := fun vs H Q E => ∃ a b c, vs = [a, b, c] ∧ f a b c H Q E
def sp4 (f : V → V → V → V → Hp → VK → XK → Prop) : Sp := fun vs H Q E => ∃ a b c d, vs = [a, b, c, d] ∧ f a b c d H Q E
def sp5 (f : V → V → V → V → V → Hp → VK → XK → Prop) : Sp := fun vs H Q E => ∃ a b c d e, vs = [a, b, c, d, e] ∧ f a b c d e H Q E
def sp6 (f : V → V → V → V → V → V → Hp → VK → XK → Prop) : Sp := fun vs H Q E => ∃ a b c d e g, vs = [a, b, c, d, e, g] ∧ f a b c d e g H Q E
theorem len5 {f} (vs : List V) (H : Hp) (Q : VK) (E : XK) (h : sp5 f vs H Q E) : vs.length = 5 := by
  obtain ⟨_, _, _, _, _, rfl, _⟩ := h
  rfl
theorem len6 {f} (vs : List V) (H : Hp) (Q : VK) (E : XK) (h : sp6 f vs H Q E) : vs.length = 6 := by
  obtain ⟨_, _, _, _, _, _, rfl, _⟩ := h
  rfl
theorem len1 {f} (vs : List V) (H : Hp) (Q : VK) (E : XK) (h : sp1 f vs H Q E) : vs.length = 1 := by
  obtain ⟨_, rfl, _⟩ := h
  rfl
theorem len2 {f} (vs : List V) (H : Hp) (Q : VK) (E : XK) (h : sp2 f vs H Q E) : vs.length = 2 := by
  obtain ⟨_, _, rfl, _⟩ := h
  rfl
theorem len3 {f} (vs : List V) (H : Hp) (Q : VK) (E : XK) (h : sp3 f vs H Q E) : vs.length = 3 := by
  obtain ⟨_, _, _, rfl, _⟩ := h
  rfl
theorem len4 {f} (vs : List V) (H : Hp) (Q : VK) (E : XK) (h : sp4 f vs H Q E) : vs.length = 4 := by
  obtain ⟨_, _, _, _, rfl, _⟩ := h
  rfl
/-- a def's promise from its body -/
theorem calD {P : Program} {w : World} {K : PySem.W.Frag} {mg : Str → Option Value} {base : Heap} {x qual : Str} {params : Arguments} {body : List Stmt} {scope : Scope} {f : Addr} {fd : FuncData} {N ps : List Str} {k : Nat} {sp : Sp}
    (F : FunD K x qual params body scope [] [] f fd) (m : mg x = some (.ref f)) (S : FnScope N ps scope)
    (hb : ∀ (kV doc pm : Value) (an : Option Addr) (cdv ct : Value) (us : List Value), us.length = ps.length → bindArgs (PySem.W.fnOf x qual params body scope .none kV doc pm an cdv ct) ⟨us, []⟩ = pure (ps.zip us))
    (len : ∀ vs H Q E, sp vs H Q E → vs.length = ps.length)
    (hbody : ∀ (cdv : Value) (A : Around) (outer : List Env) (s : Shared) (H : Hp) (vs : List V) (Q : VK) (E : XK), Room k (A.deeper (envOfC qual scope s.heap.objs.size f cdv)) → sp vs H Q E →
      ∃ t, PSs (cxOf CX0 P w K mg base N qual scope f cdv A outer s H E).nox body t ∧ t { nx := fun _ H' => Q .non H', rt := Q } (start N vs) H) : Cal P w K mg base (k + 1) x sp [] :=
  ⟨f, fd, ps, [], F.ok S len fun cdv A outer s H vs Q E hr h => by
    obtain ⟨t, h1, h2⟩ := hbody cdv A outer s H vs Q E hr h
    exact ⟨t, h1.nox, h2⟩, m, F.kp, F.bindsN hb, .nil⟩
theorem fnD {P : Program} {w : World} {K : PySem.W.Frag} {mg : Str → Option Value} {base : Heap} {x qual : Str} {params : Arguments} {body : List Stmt} {scope : Scope} {f : Addr} {fd : FuncData} {N ps : List Str} {k : Nat} {sp : Sp}
    (F : FunD K x qual params body scope [] [] f fd) (S : FnScope N ps scope) (len : ∀ vs H Q E, sp vs H Q E → vs.length = ps.length)
    (hbody : ∀ (cdv : Value) (A : Around) (outer : List Env) (s : Shared) (H : Hp) (vs : List V) (Q : VK) (E : XK), Room k (A.deeper (envOfC qual scope s.heap.objs.size f cdv)) → sp vs H Q E →
      ∃ t, PSs (cxOf CX0 P w K mg base N qual scope f cdv A outer s H E).nox body t ∧ t { nx := fun _ H' => Q .non H', rt := Q } (start N vs) H) : FnOk P w K mg base CX0 (k + 1) f fd ps sp :=
  F.ok S len fun cdv A outer s H vs Q E hr h => by
    obtain ⟨t, h1, h2⟩ := hbody cdv A outer s H vs Q E hr h
    exact ⟨t, h1.nox, h2⟩
theorem conI {K : PySem.W.Frag} {h : Heap} {mg : Str → Option Value} {x : Str} {i : Int} (X : K.In h) (G : h.Ns mainGlobals mg) (c : (He.Fa.int x i).ok K = true) : ∃ u, mg x = some u ∧ RelV (.int i) u := by
  obtain ⟨t, e⟩ := He.int_ok X G c
  exact ⟨_, e, t, rfl⟩
theorem conS {K : PySem.W.Frag} {h : Heap} {mg : Str → Option Value} {x z : Str} (X : K.In h) (G : h.Ns mainGlobals mg) (c : (He.Fa.str x z).ok K = true) : ∃ u, mg x = some u ∧ RelV (.str z) u := by
  obtain ⟨t, e⟩ := He.str_ok X G c
  exact ⟨_, e, t, rfl⟩

/-! ### more readings -/
section
variable {σ : St} {H : Hp} {n b c : St → Hp → Prop} {r : VK} {Q : VK}
theorem r_cut {t u : TS} (Mid : St → Hp → Prop) (h1 : t ⟨Mid, r, b, c⟩ σ H) (h2 : ∀ σ' H', Mid σ' H' → u ⟨n, r, b, c⟩ σ' H') : tCut t u ⟨n, r, b, c⟩ σ H := ⟨Mid, h1, h2⟩
end
section
variable {σ : St} {H : Hp} {Q : VK} {K : PySem.W.Frag}
theorem r_yes {R : Bool → Hp → Prop} (h : R true H) : tYes σ H R := h
theorem r_isi {x : V} {c d : String} {b : Bool} (t : TyX K H x (.type d)) (e : kitB d c = some b) (h : Q (.bl b) H) : rIsi K [x, .ty c] H Q := ⟨x, .ty c, .type d, .type c, b, rfl, .ty c, t, kit_ty e, h⟩
theorem r_neD {x y : V} {d e : PyData} (h1 : Dp K H x d) (h2 : Dp K H y e) (s1 : SeqAt.shaped d = true) (s2 : SeqAt.shaped e = true) (h : Q (.bl (!PyData.eqv d e)) H) : rNeD K x y H Q := ⟨d, e, h1, h2, s1, s2, h⟩
theorem r_eqD {x y : V} {d e : PyData} (h1 : Dp K H x d) (h2 : Dp K H y e) (s1 : SeqAt.shaped d = true) (s2 : SeqAt.shaped e = true) (h : Q (.bl (PyData.eqv d e)) H) : rEqD K x y H Q := ⟨d, e, h1, h2, s1, s2, h⟩
theorem eqv_same {d : PyData} (s : SeqAt.shaped d = true) : PyData.eqv d d = true := SeqAt.eqv_refl d (Bool.and_eq_true_iff.mp s).1
/-- the same data on both sides -/
theorem r_neDs {x y : V} {d : PyData} (h1 : Dp K H x d) (h2 : Dp K H y d) (s : SeqAt.shaped d = true) (h : Q (.bl false) H) : rNeD K x y H Q := r_neD h1 h2 s s (by rw [eqv_same s]; exact h)
theorem r_eqDs {x y : V} {d : PyData} (h1 : Dp K H x d) (h2 : Dp K H y d) (s : SeqAt.shaped d = true) (h : Q (.bl true) H) : rEqD K x y H Q := r_eqD h1 h2 s s (by rw [eqv_same s]; exact h)
theorem r_rfl {v : V} {B : Prop} (h : B) : v = v ∧ B := ⟨rfl, h⟩
theorem r_gtup {p : Addr} {xs : List V} {n : Nat} {t : TGs} {R : St → Hp → Prop} (hs : SqT K H p xs) (hl : xs.length = n) (h : t xs σ H R) : gTup K n t (.ref p) σ H R := ⟨p, xs, rfl, hs, hl, h⟩
theorem r_gcons {t : TG} {u : TGs} {v : V} {vs : List V} {R : St → Hp → Prop} (h : t v σ H fun σ' H' => u vs σ' H' R) : gCons t u (v :: vs) σ H R := ⟨v, vs, rfl, h⟩
theorem r_gnil {R : St → Hp → Prop} (h : R σ H) : gNil [] σ H R := ⟨rfl, h⟩
theorem r_iteC {p : Prop} [Decidable p] {a b : Int} (h : Q (.int (if p then a else b)) H) : if decide p = true then tC (.int a) σ H Q else tC (.int b) σ H Q := by
  by_cases c : p
  · rw [if_pos (decide_eq_true c)]
    rw [if_pos c] at h
    exact h
  · rw [if_neg (by simp [c])]
    rw [if_neg c] at h
    exact h
theorem r_iteJ {p : Prop} [Decidable p] {ta tb : TE} (v : V) (h1 : p → ∀ R : VK, R v H → ta σ H R) (h2 : ¬ p → ∀ R : VK, R v H → tb σ H R) (h : Q v H) : if decide p = true then ta σ H Q else tb σ H Q := by
  by_cases c : p
  · rw [if_pos (decide_eq_true c)]
    exact h1 c Q h
  · rw [if_neg (by simp [c])]
    exact h2 c Q h
theorem r_max2 {p : Addr} {x y : Int} (hs : H p = some (.lst [.int x, .int y])) (h : Q (.int (max x y)) H) : rMax K [.ref p] H Q := by
  refine ⟨p, [x, y], rfl, SqL.of hs, by show 0 < 2; decide, fun m hm hle => ?_⟩
  have h1 := hle x (by simp)
  have h2 := hle y (by simp)
  have e : m = max x y := by
    rcases List.mem_cons.mp hm with e | e
    · omega
    · rcases List.mem_cons.mp e with e | e
      · omega
      · cases e
  rw [e]
  exact h
theorem r_lam1 {x : V} {R : V → Prop} (h : R x) : ∃ i, [x] = [i] ∧ R i := ⟨x, rfl, h⟩
theorem r_abs {x : Int} {R : Int → Prop} (h : R x) : ∃ i, [V.int x] = [V.int i] ∧ R i := ⟨x, rfl, h⟩
theorem r_int1 {x : Int} {R : Int → Prop} {B : Prop} (h : R x) : (∃ i, [V.int x] = [V.int i] ∧ R i) ∨ B := .inl ⟨x, rfl, h⟩
theorem r_bm {T : String} {r : V → List V → Hp → VK → Prop} {to : TE} {t : TA} (h : to σ H fun x H1 => tyV K T x H1 ∧ t σ H1 fun xs H2 => r x xs H2 Q) : tBM K T r to t σ H Q := h
theorem r_bm0 {T : String} {r : V → List V → Hp → VK → Prop} {to : TE} (h : to σ H fun x H1 => tyV K T x H1 ∧ r x [] H1 Q) : tBM0 K T r to σ H Q := h
theorem tyL {p : Addr} {xs : List V} (h : H p = some (.lst xs)) : tyV K "list" (.ref p) H := Or.inl ⟨rfl, _, SqL.of h⟩
theorem r_app {p : Addr} {xs : List V} {y : V} (h : H p = some (.lst xs)) (hl : xs.length < sizeLine) (q : Q .non (upd H p (.lst (xs ++ [y])))) : rAppend (.ref p) [y] H Q := ⟨p, xs, y, rfl, rfl, h, hl, q⟩
theorem r_sub {to ti : TE} {t : TSet} {v : V} {R : St → Hp → Prop} (h : to σ H fun o H1 => ti σ H1 fun i H2 => t o i v H2 fun H3 => R σ H3) : gSub to ti t v σ H R := h
theorem r_setL {p : Addr} {xs : List V} {k : Int} {j : Nat} {v : V} {R : Hp → Prop} (h : H p = some (.lst xs)) (e : ixN xs.length k = some j) (q : R (upd H p (.lst (xs.set j v)))) : rSetL (.ref p) (.int k) v H R := ⟨p, xs, k, j, rfl, rfl, h, e, q⟩
theorem r_lcR {ta : TA} {g : TG} {tt : TT} {te : TE} {vs : List Nat} (n : Nat) (hn : n < 2 ^ 62)
    (h : ∀ D, H D = none → ∃ W : Nat → Nat → Hp → Prop, (∃ m, W 0 m (upd H D (.lst []))) ∧ ∀ i m H, W i m H →
      ((Itr 0 n).stop i H ∧ Q (.ref D) H) ∨ ((Itr 0 n).go i H ∧ ∃ Nx : Hp → Prop, (∀ H', Nx H' → ∃ m', m' < m ∧ W (i + 1) m' H') ∧ ∀ x H', (Itr 0 n).yld i H x H' → g x (wipe σ vs) H' fun σ2 H2 => wipe σ2 vs = wipe σ vs ∧ tt σ2 H2 fun b H3 =>
        if b = true then te σ2 H3 fun y H4 => ∃ acc, H4 D = some (.lst acc) ∧ acc.length < sizeLine ∧ Nx (upd H4 D (.lst (acc ++ [y]))) else Nx H3))
    (he : ∀ R : List V → Hp → Prop, R [.int (n : Int)] H → ta σ H R) : tLc (iRng1 ta) g tt te vs σ H Q := by
  refine he _ ⟨(n : Int), rfl, by omega, by omega, ?_⟩
  have e : ((n : Int)).toNat = n := by omega
  rw [e]
  exact h
theorem same_upd {H : Hp} {p : Addr} (h : H p = none) (o : HO) : Same H (upd H p o) := fun b u q => by
  rw [upd_ne (ne_of_none q h)]
  exact q
theorem seq_upd {p b : Addr} {xs : List V} {o : HO} (h : SqL K H b xs) (hn : b ≠ p) : SqL K (upd H p o) b xs := by
  rcases h with (h | ⟨u, h⟩) | h
  · exact .inl (.inl ((upd_ne hn).trans h))
  · exact .inl (.inr ⟨u, (upd_ne hn).trans h⟩)
  · exact .inr h
theorem atI_ints {ns : List Int} {k : Int} (h0 : 0 ≤ k) (h1 : k < (ns.length : Int)) : ∃ v, v ∈ ns ∧ atI (ns.map V.int) k = some (.int v) := by
  have hk : k.toNat < ns.length := by omega
  have ek : k = ((k.toNat : Nat) : Int) := by omega
  have q : atI (ns.map V.int) ((k.toNat : Nat) : Int) = some (.int ns[k.toNat]) := atI_nat (by rw [List.getElem?_map, List.getElem?_eq_getElem hk] <;> rfl)
  rw [← ek] at q
  exact ⟨ns[k.toNat], List.getElem_mem hk, q⟩
end

/-! ### what the program's top leaves, looked at: its defs by their addresses, facts, written data; the statics too -/
abbrev Frg := PySem.W.Frag
/-- the getter of a property of a class -/
def prAd (C f : Str) (K : Frg) : Addr := match PySem.W.recIn K (He.ma K (He.ga K C) f) "property" with
  | some (.ref g :: _) => g
  | _ => 0
def glAd (x : Str) (K : Frg) : Addr := He.ga K x
def meAd (C m : Str) (K : Frg) : Addr := He.ma K (He.ga K C) m
structure DefM where
  ad : Frg → Addr
  nm : Str
  ql : Str
  pa : Arguments
  bo : List Stmt
  sc : Scope
  df : List He.Dv := []
def seeM (K : Frg) (d : DefM) : He.FnW := match K.lookup (d.ad K) with
  | some ⟨_, _, .func u, _⟩ => some (u.name, u.qualname, u.params, u.body, u.scope, u.globals, u.closure, u.builtins)
  | _ => none
def dueM (d : DefM) : He.FnW := some (d.nm, d.ql, d.pa, .stmts d.bo, d.sc, mainGlobals, [], builtinsNs)
def okM (K : Frg) (d : DefM) : Bool := PySem.W.keepIn K (.ref (d.ad K)) && (match K.lookup (d.ad K) with
  | some ⟨_, _, .func u, _⟩ => PySem.W.codeIn K u.code d.ql && He.dflB K u.defaults (d.df.map (He.Dv.v K))
  | _ => false)
theorem both {a b : Bool} (h : (a && b) = true) : a = true ∧ b = true := Bool.and_eq_true_iff.mp h
theorem funM {K : Frg} {d : DefM} (e : seeM K d = dueM d) (c : okM K d = true) : ∃ fd, FunD K d.nm d.ql d.pa d.bo d.sc (d.df.map (He.Dv.v K)) [] (d.ad K) fd := by
  have kp := (both c).1
  have c2 := (both c).2
  unfold seeM dueM at e
  split at c2
  · rename_i x1 x2 u x3 hL
    rw [hL] at e
    obtain ⟨n1, n2, n3, n4, n5, n6, n7, n8, n9, n10, n11, n12, n13, n14, n15⟩ := u
    simp only [Option.some.injEq, Prod.mk.injEq] at e
    obtain ⟨h1, h2, h3, h4, h5, h6, h7, h8⟩ := e
    subst h1 h2 h3 h4 h5 h6 h7 h8
    have k := both c2
    exact ⟨_, ⟨x1, x2, n8, n9, n10, n11, n12, n13, n14, x3, rfl, hL, k.1, He.dflB_ok k.2, .inl rfl⟩, kp⟩
  · cases c2
/-- written data: none, truths, integers, texts, lists and tuples of them -/
def datB (K : Frg) : Nat → Value → PyData → Bool
  | 0, _, _ => false
  | n + 1, u, d => match u, d with
    | .none, .none => true
    | .bool b, .bool c => b == c
    | .int i _, .int j => decide (i = j)
    | .str x _, .str y => decide (x = y)
    | .ref a, .tuple ds => (match K.lookup a with
      | some ⟨.type c, _, .seq its _, _⟩ => decide (c = "tuple") && (decide (its.size ≤ sizeLine) && datAll (fun u d => datB K n u d) its.toList ds)
      | _ => false)
    | _, _ => false
where datAll (f : Value → PyData → Bool) : List Value → List PyData → Bool
  | [], [] => true
  | u :: us, d :: ds => f u d && datAll f us ds
  | _, _ => false
theorem datAll_ok {K : Frg} {f : Value → PyData → Bool} (hf : ∀ u d, f u d = true → ∃ x, RelV x u ∧ ∀ H, Dp K H x d) : ∀ (us : List Value) (ds : List PyData), datB.datAll f us ds = true → ∃ xs, Vals xs us ∧ ∀ H, DpAll K H xs ds
  | [], [], _ => ⟨[], .nil, fun _ => .nil⟩
  | u :: us, d :: ds, h => by
    unfold datB.datAll at h
    obtain ⟨x, r, k⟩ := hf u d (both h).1
    obtain ⟨xs, rs, ks⟩ := datAll_ok hf us ds (both h).2
    exact ⟨x :: xs, .cons r rs, fun H => .cons (k H) (ks H)⟩
  | [], _ :: _, h => by cases h
  | _ :: _, [], h => by cases h
theorem datB_ok {K : Frg} : ∀ (n : Nat) (u : Value) (d : PyData), datB K n u d = true → ∃ x, RelV x u ∧ ∀ H, Dp K H x d
  | 0, _, _, h => by cases h
  | n + 1, u, d, h => by
    unfold datB at h
    match u, d, h with
    | .none, .none, _ => exact ⟨.non, rfl, fun _ => .non⟩
    | .bool b, .bool c, h =>
      have e : b = c := eq_of_beq h
      subst e
      exact ⟨.bl b, rfl, fun _ => .bl b⟩
    | .int i t, .int j, h =>
      have e : i = j := of_decide_eq_true h
      subst e
      exact ⟨.int i, ⟨t, rfl⟩, fun _ => .int i⟩
    | .str x t, .str y, h =>
      have e : x = y := of_decide_eq_true h
      subst e
      exact ⟨.str x, ⟨t, rfl⟩, fun _ => .str x⟩
    | .ref a, .tuple ds, h =>
      have h' : (match K.lookup a with
        | some ⟨.type c, _, .seq its _, _⟩ => decide (c = "tuple") && (decide (its.size ≤ sizeLine) && datB.datAll (fun u d => datB K n u d) its.toList ds)
        | _ => false) = true := h
      split at h'
      · rename_i c x2 its m x3 hL
        have h1 := (both h').1
        have h2 := (both (both h').2).1
        obtain ⟨xs, rs, ks⟩ := datAll_ok (datB_ok n) its.toList ds (both (both h').2).2
        exact ⟨.ref a, rfl, fun H => .tup (.inr ⟨_, its, m, hL, congrArg Value.type (of_decide_eq_true h1), rfl, of_decide_eq_true h2, rs⟩) (ks H)⟩
      · cases h'
/-- a name of the module that stands for such data -/
def conB (K : Frg) (x : Str) (d : PyData) : Bool := match PySem.W.nsIn K mainGlobals x with
  | some (some u) => datB K 8 u d
  | _ => false
theorem conM {K : Frg} {h : Heap} {mg : Str → Option Value} {x : Str} {d : PyData} (X : K.In h) (G : h.Ns mainGlobals mg) (c : conB K x d = true) : ∃ v u, mg x = some u ∧ RelV v u ∧ ∀ H, Dp K H v d := by
  unfold conB at c
  split at c
  · rename_i u hL
    obtain ⟨v, r, k⟩ := datB_ok 8 u d c
    exact ⟨v, u, PySem.W.mg_of X G hL, r, k⟩
  · cases c
/-- a property of a class -/
def prB (K : Frg) (C f : Str) : Bool := He.eqO (PySem.W.findIn K (.ref (He.ga K C)) f) (some (some (.ref (He.ma K (He.ga K C) f)))) &&
  (He.eqO (PySem.W.specialIn K (.ref (He.ma K (He.ga K C) f)) "__get__") (some (some (.builtin "property.__get__"))) && (decide (PySem.W.takesIn K (.ref (He.ma K (He.ga K C) f)) = some true) &&
  (match PySem.W.recIn K (He.ma K (He.ga K C) f) "property" with
    | some (.ref _ :: _) => true
    | _ => false)))
theorem prM {K : Frg} {C f : Str} (h : prB K C f = true) : PropOf K (He.ga K C) f (He.ma K (He.ga K C) f) (prAd C f K) := by
  obtain ⟨h1, h⟩ := both h
  obtain ⟨h2, h⟩ := both h
  obtain ⟨h3, h4⟩ := both h
  refine ⟨He.eqO_ok h1, He.eqO_ok h2, of_decide_eq_true h3, ?_⟩
  unfold prAd
  split at h4
  · rename_i g r hL
    rw [hL]
    exact ⟨r, rfl⟩
  · cases h4
/-- no limit of digits is set -/
def digB (K : Frg) : Bool := He.eqO (PySem.W.nsIn K cStatics "sys.int_max_str_digits") (some none)
/-! the Hook -/
abbrev AlM : Type := Bool × List He.FnW
def frM (n : Nat) (g : Addr → Option Obj) : Frg := He.frG g (cStatics :: He.asD g n)
def obsM (fa : List He.Fa) (ex : Frg → Bool) (fn : List DefM) (K : Frg) : AlM := ((fa.all fun x => x.ok K) && (ex K && fn.all fun d => okM K d), fn.map fun d => seeM K d)
def valM (fn : List DefM) : AlM := (true, fn.map dueM)
def SaysM (fa : List He.Fa) (ex : Frg → Bool) (fn : List DefM) (K : Frg) : Prop := obsM fa ex fn K = valM fn
def hookM (n : Nat) (fa : List He.Fa) (ex : Frg → Bool) (fn : List DefM) : PySem.W.Hook where
  α := AlM
  obs := fun s => obsM fa ex fn (frM n s.heap.get?)
  val := fun _ => valM fn
  says := fun _ h => ∃ K : Frg, K.In h ∧ SaysM fa ex fn K
  of := fun _ _ e => ⟨_, He.frG_in, e⟩
  keeps := fun _ _ _ ⟨K, hK, c⟩ k => ⟨K, PySem.W.Frag.In.keeps hK k, c⟩
theorem obsM_eq {n : Nat} {fa : List He.Fa} {ex : Frg → Bool} {fn : List DefM} {g : Addr → Option Obj} {s : Shared} (h : ∀ a, g a = s.heap.get? a) : obsM fa ex fn (frM n g) = (hookM n fa ex fn).obs s := by
  have e : g = s.heap.get? := funext h
  subst e
  rfl
section
variable {fa : List He.Fa} {ex : Frg → Bool} {fn : List DefM} {K : Frg}
theorem SaysM.fact (c : SaysM fa ex fn K) (i : Nat) {x : He.Fa} (h : fa[i]? = some x) : x.ok K = true :=
  List.all_eq_true.mp (both (congrArg Prod.fst c : ((fa.all fun x => x.ok K) && (ex K && fn.all fun d => okM K d)) = true)).1 x (List.mem_of_getElem? h)
theorem SaysM.more (c : SaysM fa ex fn K) : ex K = true := (both (both (congrArg Prod.fst c : ((fa.all fun x => x.ok K) && (ex K && fn.all fun d => okM K d)) = true)).2).1
theorem SaysM.def_ (c : SaysM fa ex fn K) (i : Nat) {d : DefM} (h : fn[i]? = some d) : ∃ fd, FunD K d.nm d.ql d.pa d.bo d.sc (d.df.map (He.Dv.v K)) [] (d.ad K) fd := by
  have c2 := (both (both (congrArg Prod.fst c : ((fa.all fun x => x.ok K) && (ex K && fn.all fun d => okM K d)) = true)).2).2
  have e2 : (fn.map fun d => seeM K d)[i]? = (fn.map dueM)[i]? := congrArg (fun z : AlM => z.2[i]?) c
  simp only [List.getElem?_map, h, Option.map_some, Option.some.injEq] at e2
  exact funM e2 (List.all_eq_true.mp c2 d (List.mem_of_getElem? h))
end

/-! ### own classes: made, their fields and methods -/
theorem lk_hit (k : Str) (v : V) (r : List (Str × V)) : List.lookup k ((k, v) :: r) = some v := by simp [List.lookup]
theorem lk_miss {k a : Str} {v : V} {r : List (Str × V)} (h : (a == k) = false) : List.lookup a ((k, v) :: r) = List.lookup a r := by
  show (match a == k with
    | true => some v
    | false => List.lookup a r) = _
  rw [h]
theorem pf_nil (k : Str) (v : V) : putF k v [] = [(k, v)] := rfl
theorem pf_hit (k : Str) (v x : V) (r : List (Str × V)) : putF k v ((k, x) :: r) = (k, v) :: r := if_pos rfl
theorem pf_miss {k g : Str} {v x : V} {r : List (Str × V)} (h : ¬ g = k) : putF k v ((g, x) :: r) = (g, x) :: putF k v r := if_neg h
section
variable {X : Cx} {k j : Nat} {C : Addr} {x m : Str} {sp : Sp} {dvs : List V} {p pos apos : Pos} {e o : Expr} {es : List Expr} {ta : TE} {t : TA}
theorem pe_mk0 (c : Mak X.prog X.w X.K X.mg X.base k x C sp dvs) (hr : Room j X.A) (hk : k + 1 ≤ j) (hg : Gl X x) (hdb : (x == ("__debug__" : Str)) = false := by decide) : PE X (.Call (.Name x p) [] [] pos) (tMake C sp dvs C8.E0 tNil) := by
  obtain ⟨_, _, _, _, M, F, hm, b, d⟩ := c.ex
  exact pe_make0 M F (hr.mono hk) hg hm b d pass0 hdb
/-- a property of the class at C -/
structure Prp (P : Program) (w : World) (K : Frg) (mg : Str → Option Value) (base : Heap) (k : Nat) (C : Addr) (f : Str) (sp : Sp) : Prop where
  ex : ∃ (q g : Addr) (fd : FuncData) (ps : List Str), Cls K C ∧ PropOf K C f q g ∧ FnOk P w K mg base CX0 k g fd ps sp ∧ Binds K fd ps []
theorem pe_pr {f : Str} (c : Prp X.prog X.w X.K X.mg X.base k C f sp) (hr : Room j X.A) (hk : k + 1 ≤ j) (he : PE X o ta) (hab : attributeBase o f X.env (eval o X.env) = eval o X.env := by rfl) : PE X (.Attribute o f pos) (tProp C sp [] C8.E0 ta) := by
  obtain ⟨_, _, _, _, cl, q, F, b⟩ := c.ex
  exact pe_prop he cl q F (hr.mono hk) b .nil pass0 hab
end
section
variable {P : Program} {w : World} {K : Frg} {mg : Str → Option Value} {base : Heap} {x qual : Str} {params : Arguments} {body : List Stmt} {scope : Scope} {f : Addr} {fd : FuncData} {N ps : List Str} {k : Nat} {sp : Sp} {C : Addr}
theorem metD (F : FunD K x qual params body scope [] [] f fd) (cl : Cls K C) (me : Meth K C x f) (S : FnScope N ps scope)
    (hb : ∀ (kV doc pm : Value) (an : Option Addr) (cdv ct : Value) (us : List Value), us.length = ps.length → bindArgs (PySem.W.fnOf x qual params body scope .none kV doc pm an cdv ct) ⟨us, []⟩ = pure (ps.zip us))
    (len : ∀ vs H Q E, sp vs H Q E → vs.length = ps.length)
    (hbody : ∀ (cdv : Value) (A : Around) (outer : List Env) (s : Shared) (H : Hp) (vs : List V) (Q : VK) (E : XK), Room k (A.deeper (envOfC qual scope s.heap.objs.size f cdv)) → sp vs H Q E →
      ∃ t, PSs (cxOf CX0 P w K mg base N qual scope f cdv A outer s H E).nox body t ∧ t { nx := fun _ H' => Q .non H', rt := Q } (start N vs) H) : Met P w K mg base (k + 1) C x sp [] :=
  ⟨f, fd, ps, [], cl, me, fnD F S len hbody, F.bindsN hb, .nil⟩
theorem makD {y : Str} (F : FunD K x qual params body scope [] [] f fd) (M : Mk K C f) (m : mg y = some (.ref C)) (S : FnScope N ps scope)
    (hb : ∀ (kV doc pm : Value) (an : Option Addr) (cdv ct : Value) (us : List Value), us.length = ps.length → bindArgs (PySem.W.fnOf x qual params body scope .none kV doc pm an cdv ct) ⟨us, []⟩ = pure (ps.zip us))
    (len : ∀ vs H Q E, sp vs H Q E → vs.length = ps.length)
    (hbody : ∀ (cdv : Value) (A : Around) (outer : List Env) (s : Shared) (H : Hp) (vs : List V) (Q : VK) (E : XK), Room k (A.deeper (envOfC qual scope s.heap.objs.size f cdv)) → sp vs H Q E →
      ∃ t, PSs (cxOf CX0 P w K mg base N qual scope f cdv A outer s H E).nox body t ∧ t { nx := fun _ H' => Q .non H', rt := Q } (start N vs) H) : Mak P w K mg base (k + 1) y C sp [] :=
  ⟨f, fd, ps, [], M, fnD F S len hbody, m, F.bindsN hb, .nil⟩
theorem prpD {y : Str} {q : Addr} (F : FunD K x qual params body scope [] [] f fd) (cl : Cls K C) (pr : PropOf K C y q f) (S : FnScope N ps scope)
    (hb : ∀ (kV doc pm : Value) (an : Option Addr) (cdv ct : Value) (us : List Value), us.length = ps.length → bindArgs (PySem.W.fnOf x qual params body scope .none kV doc pm an cdv ct) ⟨us, []⟩ = pure (ps.zip us))
    (len : ∀ vs H Q E, sp vs H Q E → vs.length = ps.length)
    (hbody : ∀ (cdv : Value) (A : Around) (outer : List Env) (s : Shared) (H : Hp) (vs : List V) (Q : VK) (E : XK), Room k (A.deeper (envOfC qual scope s.heap.objs.size f cdv)) → sp vs H Q E →
      ∃ t, PSs (cxOf CX0 P w K mg base N qual scope f cdv A outer s H E).nox body t ∧ t { nx := fun _ H' => Q .non H', rt := Q } (start N vs) H) : Prp P w K mg base (k + 1) C y sp :=
  ⟨q, f, fd, ps, cl, pr, fnD F S len hbody, F.bindsN hb⟩
end
section
variable {σ : St} {H : Hp} {n b c : St → Hp → Prop} {r : VK} {Q : VK} {K : Frg} {a C dx : Addr} {fs : List (Str × V)} {f : Str} {v : V}
theorem r_fld {te : TE} (h : te σ H fun x H1 => ∃ a C dx fs v, x = .ref a ∧ H1 a = some (.ins C dx fs) ∧ Cls K C ∧ NoAttr K C f ∧ fs.lookup f = some v ∧ Q v H1) : tFld K te f σ H Q := h
theorem r_fget {R : V → Prop} (h : H a = some (.ins C dx fs)) (cl : Cls K C) (na : NoAttr K C f) (l : fs.lookup f = some v) (q : R v) :
    ∃ a' C dx fs v, V.ref a = .ref a' ∧ H a' = some (.ins C dx fs) ∧ Cls K C ∧ NoAttr K C f ∧ fs.lookup f = some v ∧ R v := ⟨a, C, dx, fs, v, rfl, h, cl, na, l, q⟩
theorem r_sfld {ta tv : TE} (h : tv σ H fun y H1 => ta σ H1 fun x H2 => ∃ a C dx fs, x = .ref a ∧ H2 a = some (.ins C dx fs) ∧ Cls K C ∧ NoAttr K C f ∧ fs.length < 1000 ∧ n σ (upd H2 a (.ins C dx (putF f y fs)))) : sFld K ta tv f ⟨n, r, b, c⟩ σ H := h
theorem r_fset {R : Hp → Prop} {fs' : List (Str × V)} (h : H a = some (.ins C dx fs)) (cl : Cls K C) (na : NoAttr K C f) (hl : fs.length < 1000) (e : putF f v fs = fs') (q : R (upd H a (.ins C dx fs'))) :
    ∃ a' C dx fs, V.ref a = .ref a' ∧ H a' = some (.ins C dx fs) ∧ Cls K C ∧ NoAttr K C f ∧ fs.length < 1000 ∧ R (upd H a' (.ins C dx (putF f v fs))) := ⟨a, C, dx, fs, rfl, h, cl, na, hl, by rw [e]; exact q⟩
theorem r_meth {m : Str} {sp : Sp} {dvs : List V} {E : XK} {ta : TE} {t : TA} (h : ta σ H fun x H1 => ∃ a dx fs, x = .ref a ∧ H1 a = some (.ins C dx fs) ∧ fs.lookup m = none ∧ t σ H1 fun vs H2 => sp (x :: (vs ++ dvs)) H2 Q E) : tMeth C m sp dvs E ta t σ H Q := h
theorem r_mget {m : Str} {R : Prop} (h : H a = some (.ins C dx fs)) (l : fs.lookup m = none) (q : R) : ∃ a' dx fs, V.ref a = .ref a' ∧ H a' = some (.ins C dx fs) ∧ fs.lookup m = none ∧ R := ⟨a, dx, fs, rfl, h, l, q⟩
theorem r_prop {sp : Sp} {dvs : List V} {E : XK} {ta : TE} (h : ta σ H fun x H1 => ∃ a dx fs, x = .ref a ∧ H1 a = some (.ins C dx fs) ∧ sp (.ref a :: dvs) H1 Q E) : tProp C sp dvs E ta σ H Q := h
theorem r_pget {R : Addr → Prop} (h : H a = some (.ins C dx fs)) (q : R a) : ∃ a' dx fs, V.ref a = .ref a' ∧ H a' = some (.ins C dx fs) ∧ R a' := ⟨a, dx, fs, rfl, h, q⟩
theorem r_make {sp : Sp} {dvs : List V} {E : XK} {t : TA} (h : t σ H fun vs H1 => ∀ x dx, H1 x = none → H1 dx = none → dx ≠ x → sp (.ref x :: (vs ++ dvs)) (upd (upd H1 dx (.own x)) x (.ins C dx [])) (fun v H2 => v = .non ∧ Q (.ref x) H2) E) : tMake C sp dvs E t σ H Q := h
end

/-! ### loops over rows -/
section
variable {X : Cx} {tg iter : Expr}
/-- one of two ways to come by an iterator -/
theorem pi_or {u v : TI} (h1 : PI X tg iter u) (h2 : PI X tg iter v) : PI X tg iter (fun σ H R => u σ H R ∨ v σ H R) := by
  refine ⟨fun pins s σ H R I h => ?_⟩
  rcases h with h | h
  · exact h1.run pins s σ H R I h
  · exact h2.run pins s σ H R I h
end
set_option maxHeartbeats 8000000 in
theorem meets_enum1 {v : Value} {o : Obj} {G : Heap → Prop} (B : Begins v o G) :
    Meets (Builtin.«enumerate.__new__» ⟨[.type "enumerate", v], []⟩) (fun _ R s => G s.heap ∧
      R (.ok (.ret (.ref (s.heap.push o).objs.size))) { s with heap := (s.heap.push o).push { cls := .type "enumerate", data := .fields #[.none, .bool false, .ref s.heap.objs.size, rawInt 0, .none, .none] } }) :=
  .of_wp fun prog w A R s h => by
    obtain ⟨hp, g, d, tk, os⟩ := s
    obtain ⟨h1, h⟩ := h
    have hsub := sub_enumerate
    have q1 : ∀ {A' : Around} {E : Value → Shared → Prop} {Q : Value → Shared → Prop}, Q (.ref hp.objs.size) ⟨hp.push o, g, d, tk, os⟩ → wpAny (model prog w) A' (pyIter v) Q E ⟨hp, g, d, tk, os⟩ :=
      fun q => B.iter prog w _ _ ⟨hp, g, d, tk, os⟩ _ h1 q
    wp_walk using q1
    refine wpAny_stack_any fun st => wpAny_pure ?_
    split
    · rename_i c _ _ _ _ _
      cases (c == Value.type "enumerate")
      · wp_walk using q1
        exact ⟨_, rfl, h⟩
      · wp_walk using q1
        exact ⟨_, rfl, h⟩
    · wp_walk using q1
      exact ⟨_, rfl, h⟩
theorem call_enum1 {prog : Program} {w : World} {A : Around} {E : Value → Shared → Prop} {s : Shared} {v : Value} {o : Obj} {G : Heap → Prop} {Q : Value → Shared → Prop} (B : Begins v o G) (h1 : G s.heap)
    (h : ∀ h', IsEnum h' (s.heap.objs.size + 1) s.heap.objs.size 0 .none → h'.get? s.heap.objs.size = some o → h'.objs.size = s.heap.objs.size + 2 →
      (∀ b o, s.heap.get? b = some o → h'.get? b = some o) → Q (.ref (s.heap.objs.size + 1)) { s with heap := h' }) : wpAny (model prog w) A (call (.type "enumerate") [v]) Q E s := by
  refine callType_new F.called_enumerate (by decide) (F.typeCall_enumerate_1 _) (F.newCall_enumerate_1 _) (fun obj => F.args_object_init_2 obj _) F.entry_enumerate_new (meets_enum1 B) ⟨h1, ?_⟩
  have hz : (s.heap.push o).objs.size = s.heap.objs.size + 1 := Heap.size_push ..
  show _ ∧ _
  rw [hz]
  have he := Heap.get?_push_size (s.heap.push o) (o := { cls := .type "enumerate", data := .fields #[.none, .bool false, .ref s.heap.objs.size, rawInt 0, .none, .none] }) rfl
  rw [hz] at he
  exact ⟨⟨_, he, rfl⟩, h _ he (Heap.get?_push_of_some _ (Heap.get?_push_size _ B.free)) (by rw [Heap.size_push, hz]) fun b o x => Heap.get?_push_of_some _ (Heap.get?_push_of_some _ x)⟩
/-- the tuple at a, each item in a new pair -/
def Itet (K : PySem.W.Frag) (a : Addr) (xs : List V) : It :=
  ⟨fun i H => SqT K H a xs ∧ i < xs.length, fun i H v H' => ∃ T x, v = .ref T ∧ H T = none ∧ H' = upd H T (.tup [.int (i : Nat), x]) ∧ xs[i]? = some x, fun i H => SqT K H a xs ∧ xs.length ≤ i⟩
theorem turn_enumT {P : Program} {w : World} {K : PySem.W.Frag} {elts : List Expr} {kk : Nat} {tpos : Pos} (a e it : Addr) (xs : List V) (hta : a ≠ it) :
    Turn P w K (.Tuple elts kk tpos) (Itet K a xs) [e, it] e (fun i h => (∃ old, IsEnum h e it ((i : Nat) : Int) old) ∧ h.IsTupleIter it a i ∧ e ≠ it ∧ i ≤ xs.length) where
  mem := by simp
  obj := fun i h st b hb => by
    obtain ⟨⟨old, he⟩, ⟨o, ho, hc, hd⟩, _⟩ := st
    have e' : b = e ∨ b = it := by simpa using hb
    rcases e' with z | z
    · rw [z]
      exact ⟨_, he, fun v q => nomatch q⟩
    · rw [z]
      exact ⟨o, ho, fun v q => by rw [hd] at q; cases q⟩
  keep := fun i h h' st k => let ⟨⟨old, he⟩, hi, hne, hn⟩ := st; ⟨⟨old, k e (by simp) _ he⟩, hi.at fun o q => k it (by simp) o q, hne, hn⟩
  item := by
    intro X hP hw hK hc i pins s σ H E I hf st hg
    subst hP hw hK
    obtain ⟨⟨old, he⟩, hit, hne, hn⟩ := st
    obtain ⟨hq, hlt⟩ := hg
    obtain ⟨its, rv, p, hz⟩ := I.tuple hq
    have p' : s.heap.IsTuple a its.toArray := p
    have hl := rv.length
    have hel : e < s.heap.objs.size := Heap.lt_size he
    have hil : it < s.heap.objs.size := by
      obtain ⟨_, q, _⟩ := hit
      exact Heap.lt_size q
    have hea : e ≠ a := fun q => by
      obtain ⟨o, ho, hc', _⟩ := p'
      rw [← q, he] at ho
      cases ho
      have z : Value.type "enumerate" = Value.type "tuple" := hc'
      injection z with z
      exact absurd z (by decide)
    have D := Draws.tuple (prog := X.prog) (w := X.w) (A := X.A.in1) (I.ok.hd hc) it a hta its.toArray
    refine wpAny_pyNext_enum_itemD D he ⟨hit, p'⟩ (by simpa [← hl] using hlt) hne (by simp [hne, hea]) fun u h' tk hu ho hs' hT hsz hk => ?_
    obtain ⟨x, hx, ru⟩ : ∃ x, xs[i]? = some x ∧ RelV x u := by
      obtain ⟨u', hu', r'⟩ := rv.get (List.getElem?_eq_getElem hlt)
      have e1 : its[i]? = some u := by simpa using hu
      rw [e1] at hu'
      cases hu'
      exact ⟨_, List.getElem?_eq_getElem hlt, r'⟩
    refine ⟨_, rfl, wpAny_letOwnedTupleGo_enum (s := { s with heap := h', toks := tk + 1 }) ho fun h'' he' sb => ?_⟩
    have hT2 : h''.get? s.heap.objs.size = some { cls := .type "tuple", data := .seq #[.int i tk, u] } := (sb.2 _ (Nat.ne_of_gt hel)).trans hT
    have new : ObjOk X.prog X.w (upd H s.heap.objs.size (.tup [.int (i : Nat), x])) h'' s.heap.objs.size (.tup [.int (i : Nat), x]) :=
      ⟨by show 2 ≤ sizeLine; decide, [.int i tk, u], .cons ⟨_, rfl⟩ (.cons ru .nil), ⟨_, hT2, rfl, _, rfl⟩⟩
    have I1 : Inv X pins σ (upd H s.heap.objs.size (.tup [.int (i : Nat), x])) { s with heap := h'', toks := tk + 1 } :=
      I.turnedNew (ch := [e, it]) (fun b ob hb q => (sb.2 b (fun z => hb (by simp [z]))).trans (hk b ob (fun z => hb (by simp [z])) (fun z => hb (by simp [z])) q)) hf (Nat.le_refl _) new
    refine ⟨.ref s.heap.objs.size, _, I1, rfl, ⟨_, x, rfl, I.hok.fresh (Nat.le_refl _), rfl, hx⟩, ⟨⟨u, ?_⟩, hs'.1.at fun o q => (sb.2 it (Ne.symm hne)).trans q, hne, hlt⟩, fun b hb => ?_⟩
    · have e1 : ((i + 1 : Nat) : Int) = (i : Int) + 1 := by omega
      rw [e1]
      exact he'
    · have hb' : b < s.heap.objs.size := by
        have e' : b = e ∨ b = it := by simpa using hb
        rcases e' with z | z
        · rw [z]
          exact hel
        · rw [z]
          exact hil
      rw [upd_ne (Nat.ne_of_lt hb')]
      exact (hf b hb).1
  done := by
    intro X hP hw hK hc i pins s σ H E I hf st hg
    subst hP hw hK
    obtain ⟨⟨old, he⟩, hit, hne, hn⟩ := st
    obtain ⟨hq, hx⟩ := hg
    obtain ⟨its, rv, p, hz⟩ := I.tuple hq
    have p' : s.heap.IsTuple a its.toArray := p
    obtain ⟨f0, f1, f2, f3, f4, f5⟩ := hf it (by simp)
    have hl := rv.length
    have hi : i = its.toArray.size := by
      simp
      omega
    subst hi
    have D := Draws.tuple (prog := X.prog) (w := X.w) (A := X.A.in1) (I.ok.hd hc) it a hta its.toArray
    exact wpAny_pyNext_enum_endD D he ⟨hit, p'⟩ fun h' eb => ⟨rfl, I.turned (t' := s.toks) (fun b o hb q => eb b o hb q) f0 f1 f3 f4 f5⟩
  self := fun A i s Q E st h => let ⟨⟨_, he⟩, _⟩ := st; wpAny_pyIter_enum he h
def iEnumT (K : PySem.W.Frag) (ta : TA) : TI := fun σ H R => ta σ H fun vs H1 => ∃ a xs, vs = [.ref a] ∧ SqT K H1 a xs ∧ R (Itet K a xs) H1
theorem pi_enumT {X : Cx} {e : Expr} {ta : TA} {p pos tpos : Pos} {elts : List Expr} {kk : Nat} (hg : Gl X "enumerate") (hm : X.mg "enumerate" = none) (ha : PA X [e] ta) (hs : starEach [e] X.env = [(false, eval e X.env)] := by rfl) :
    PI X (.Tuple elts kk tpos) (.Call (.Name "enumerate" p) [e] [] pos) (iEnumT X.K ta) := by
  refine ⟨fun pins s σ H R I h => ?_⟩
  refine PyProof.Rows.Call_ (ld_blt I hg hm PyProof.Rows.boot_enumerate (PyProof.Rows.callWith_type1 (thn (ha.run pos pins s σ H _ I h) fun us s1 ⟨vs, H1, I1, r1, q1⟩ => ?_) hs rfl))
  obtain ⟨a, xs, ex, hq, q⟩ := q1
  subst ex
  cases r1 with
  | cons r rr =>
    cases rr
    cases r
    obtain ⟨its, rv, p', hz⟩ := I1.tuple hq
    have p2 : s1.heap.IsTuple a its.toArray := p'
    refine call_enum1 (begins_tuple a its.toArray) p2 fun h' he hit hsz hk => wpAny_pyIter_enum he ?_
    have I2 : Inv X pins σ H1 { s1 with heap := h' } := I1.kept (t' := s1.toks) hk
    have hal : a < s1.heap.objs.size := by
      obtain ⟨_, q, _⟩ := p2
      exact Heap.lt_size q
    refine ⟨s1.heap.objs.size + 1, [s1.heap.objs.size + 1, s1.heap.objs.size], _, _, H1, rfl, I2, turn_enumT a (s1.heap.objs.size + 1) s1.heap.objs.size xs (Nat.ne_of_lt hal), ⟨⟨.none, he⟩, ⟨_, hit, rfl, rfl⟩, Nat.succ_ne_self _, Nat.zero_le _⟩, fun b hb => ?_, q⟩
    have e' : b = s1.heap.objs.size + 1 ∨ b = s1.heap.objs.size := by simpa using hb
    have hle : s1.heap.objs.size ≤ b := by
      rcases e' with z | z
      · rw [z]
        exact Nat.le_add_right _ _
      · rw [z]
        exact Nat.le_refl _
    exact I1.fpOk hle (I1.hok.fresh hle)
/-! ### the turns of such loops -/
section
variable {σ : St} {H : Hp} {n b c : St → Hp → Prop} {r : VK} {Q : VK} {K : PySem.W.Frag}
theorem r_each {J : It} {g : TG} {tb : TS} (N : Nat) (Pv : Nat → St → Hp → Prop) (h0 : Pv 0 σ H)
    (hs : ∀ (i : Nat) σ H, i < N → Pv i σ H → J.go i H ∧ ∀ x H', J.yld i H x H' → g x σ H' fun σ2 H2 => tb ⟨Pv (i + 1), r, n, Pv (i + 1)⟩ σ2 H2) (hd : ∀ σ H, Pv N σ H → J.stop N H ∧ n σ H) :
    ∃ W : Nat → Nat → St → Hp → Prop, (∃ m, W 0 m σ H) ∧ ∀ i m σ H, W i m σ H →
    (J.stop i H ∧ n σ H) ∨ (J.go i H ∧ ∃ N : St → Hp → Prop, (∀ σ' H', N σ' H' → ∃ m', m' < m ∧ W (i + 1) m' σ' H') ∧ ∀ x H', J.yld i H x H' → g x σ H' fun σ2 H2 => tb ⟨N, r, n, N⟩ σ2 H2) := by
  refine ⟨fun i m σ H => i ≤ N ∧ m = N - i ∧ Pv i σ H, ⟨N, Nat.zero_le _, rfl, h0⟩, fun i m σ H ⟨hi, hm, hp⟩ => ?_⟩
  by_cases c : i < N
  · obtain ⟨h1, h2⟩ := hs i σ H c hp
    exact .inr ⟨h1, Pv (i + 1), fun σ' H' q => ⟨N - (i + 1), by omega, c, rfl, q⟩, h2⟩
  · have e : i = N := by omega
    subst e
    exact .inl (hd σ H hp)
/-- a for over a list -/
theorem r_eachL {g : TG} {tb : TS} {a : Addr} {xs : List V} (Pv : Nat → St → Hp → Prop) (h0 : Pv 0 σ H) (hl : ∀ i σ H, Pv i σ H → SqL K H a xs)
    (hs : ∀ (i : Nat) x σ H, xs[i]? = some x → Pv i σ H → g x σ H fun σ2 H2 => tb ⟨Pv (i + 1), r, n, Pv (i + 1)⟩ σ2 H2) (hd : ∀ σ H, Pv xs.length σ H → n σ H) :
    ∃ W : Nat → Nat → St → Hp → Prop, (∃ m, W 0 m σ H) ∧ ∀ i m σ H, W i m σ H →
    ((Itl K a).stop i H ∧ n σ H) ∨ ((Itl K a).go i H ∧ ∃ N : St → Hp → Prop, (∀ σ' H', N σ' H' → ∃ m', m' < m ∧ W (i + 1) m' σ' H') ∧ ∀ x H', (Itl K a).yld i H x H' → g x σ H' fun σ2 H2 => tb ⟨N, r, n, N⟩ σ2 H2) := by
  refine r_each xs.length Pv h0 (fun i σ H hi p => ⟨⟨xs, xs[i], hl i σ H p, List.getElem?_eq_getElem hi⟩, ?_⟩) fun σ H p => ⟨⟨xs, hl _ σ H p, Nat.le_refl _⟩, hd σ H p⟩
  rintro x _ ⟨rfl, e⟩
  exact hs i x σ _ (e xs (hl i σ _ p)) p
/-- .. a tuple -/
theorem r_eachT {g : TG} {tb : TS} {a : Addr} {xs : List V} (Pv : Nat → St → Hp → Prop) (h0 : Pv 0 σ H) (hl : ∀ i σ H, Pv i σ H → SqT K H a xs)
    (hs : ∀ (i : Nat) x σ H, xs[i]? = some x → Pv i σ H → g x σ H fun σ2 H2 => tb ⟨Pv (i + 1), r, n, Pv (i + 1)⟩ σ2 H2) (hd : ∀ σ H, Pv xs.length σ H → n σ H) :
    ∃ W : Nat → Nat → St → Hp → Prop, (∃ m, W 0 m σ H) ∧ ∀ i m σ H, W i m σ H →
    ((Itt K a).stop i H ∧ n σ H) ∨ ((Itt K a).go i H ∧ ∃ N : St → Hp → Prop, (∀ σ' H', N σ' H' → ∃ m', m' < m ∧ W (i + 1) m' σ' H') ∧ ∀ x H', (Itt K a).yld i H x H' → g x σ H' fun σ2 H2 => tb ⟨N, r, n, N⟩ σ2 H2) := by
  refine r_each xs.length Pv h0 (fun i σ H hi p => ⟨⟨xs, xs[i], hl i σ H p, List.getElem?_eq_getElem hi⟩, ?_⟩) fun σ H p => ⟨⟨xs, hl _ σ H p, Nat.le_refl _⟩, hd σ H p⟩
  rintro x _ ⟨rfl, e⟩
  exact hs i x σ _ (e xs (hl i σ _ p)) p
/-- .. with the numbers of the turns -/
theorem r_eachE {g : TG} {tb : TS} {a : Addr} {xs : List V} (Pv : Nat → St → Hp → Prop) (h0 : Pv 0 σ H) (hl : ∀ i σ H, Pv i σ H → SqL K H a xs)
    (hs : ∀ (i : Nat) x σ H T, xs[i]? = some x → Pv i σ H → H T = none → g (.ref T) σ (upd H T (.tup [.int (i : Nat), x])) fun σ2 H2 => tb ⟨Pv (i + 1), r, n, Pv (i + 1)⟩ σ2 H2) (hd : ∀ σ H, Pv xs.length σ H → n σ H) :
    ∃ W : Nat → Nat → St → Hp → Prop, (∃ m, W 0 m σ H) ∧ ∀ i m σ H, W i m σ H →
    ((Ite K a).stop i H ∧ n σ H) ∨ ((Ite K a).go i H ∧ ∃ N : St → Hp → Prop, (∀ σ' H', N σ' H' → ∃ m', m' < m ∧ W (i + 1) m' σ' H') ∧ ∀ x H', (Ite K a).yld i H x H' → g x σ H' fun σ2 H2 => tb ⟨N, r, n, N⟩ σ2 H2) := by
  refine r_each xs.length Pv h0 (fun i σ H hi p => ⟨⟨xs, xs[i], hl i σ H p, List.getElem?_eq_getElem hi⟩, ?_⟩) fun σ H p => ⟨⟨xs, hl _ σ H p, Nat.le_refl _⟩, hd σ H p⟩
  rintro _ _ ⟨T, x, rfl, hT, rfl, e⟩
  exact hs i x σ _ T (e xs (hl i σ _ p)) p hT
theorem r_eachET {g : TG} {tb : TS} {a : Addr} {xs : List V} (Pv : Nat → St → Hp → Prop) (h0 : Pv 0 σ H) (hl : ∀ i σ H, Pv i σ H → SqT K H a xs)
    (hs : ∀ (i : Nat) x σ H T, xs[i]? = some x → Pv i σ H → H T = none → g (.ref T) σ (upd H T (.tup [.int (i : Nat), x])) fun σ2 H2 => tb ⟨Pv (i + 1), r, n, Pv (i + 1)⟩ σ2 H2) (hd : ∀ σ H, Pv xs.length σ H → n σ H) :
    ∃ W : Nat → Nat → St → Hp → Prop, (∃ m, W 0 m σ H) ∧ ∀ i m σ H, W i m σ H →
    ((Itet K a xs).stop i H ∧ n σ H) ∨ ((Itet K a xs).go i H ∧ ∃ N : St → Hp → Prop, (∀ σ' H', N σ' H' → ∃ m', m' < m ∧ W (i + 1) m' σ' H') ∧ ∀ x H', (Itet K a xs).yld i H x H' → g x σ H' fun σ2 H2 => tb ⟨N, r, n, N⟩ σ2 H2) := by
  refine r_each xs.length Pv h0 (fun i σ H hi p => ⟨⟨hl i σ H p, hi⟩, ?_⟩) fun σ H p => ⟨⟨hl _ σ H p, Nat.le_refl _⟩, hd σ H p⟩
  rintro _ _ ⟨T, x, rfl, hT, rfl, e⟩
  exact hs i x σ _ T e p hT
/-- .. of range(i, j, c) -/
theorem r_eachR {g : TG} {tb : TS} {i0 j0 c0 : Int} (k : Nat) (hc : RgC i0 j0 c0 k) (Pv : Nat → St → Hp → Prop) (h0 : Pv 0 σ H)
    (hs : ∀ (i : Nat) σ H, i < k → Pv i σ H → g (.int (i0 + i * c0)) σ H fun σ2 H2 => tb ⟨Pv (i + 1), r, n, Pv (i + 1)⟩ σ2 H2) (hd : ∀ σ H, Pv k σ H → n σ H) :
    RgC i0 j0 c0 k ∧ ∃ W : Nat → Nat → St → Hp → Prop, (∃ m, W 0 m σ H) ∧ ∀ i m σ H, W i m σ H →
    ((Itc i0 c0 k).stop i H ∧ n σ H) ∨ ((Itc i0 c0 k).go i H ∧ ∃ N : St → Hp → Prop, (∀ σ' H', N σ' H' → ∃ m', m' < m ∧ W (i + 1) m' σ' H') ∧ ∀ x H', (Itc i0 c0 k).yld i H x H' → g x σ H' fun σ2 H2 => tb ⟨N, r, n, N⟩ σ2 H2) := by
  refine ⟨hc, r_each k Pv h0 (fun i σ H hi p => ⟨hi, ?_⟩) fun σ H p => ⟨Nat.le_refl _, hd σ H p⟩⟩
  rintro _ _ ⟨rfl, rfl⟩
  exact hs i σ _ hi p
theorem r_rng2 {ta : TA} {R : It → Hp → Prop} (h : ta σ H fun vs H1 => ∃ i j : Int, vs = [.int i, .int j] ∧ (-(2 ^ 62) ≤ i ∧ i < 2 ^ 62 ∧ -(2 ^ 62) ≤ j ∧ j < 2 ^ 62) ∧ R (Itr i (j - i).toNat) H1) : iRng2 ta σ H R := h
theorem r_rng3 {ta : TA} {R : It → Hp → Prop} (h : ta σ H fun vs H1 => ∃ (i j c : Int) (n : Nat), vs = [.int i, .int j, .int c] ∧ RgC i j c n ∧ R (Itc i c n) H1) : iRng3 ta σ H R := h
theorem r_itL {tl : TE} {R : It → Hp → Prop} (h : tl σ H fun x H1 => ∃ a, x = .ref a ∧ (∃ xs, SqL K H1 a xs) ∧ R (Itl K a) H1) : iList K tl σ H R := h
theorem r_itT {tl : TE} {R : It → Hp → Prop} (h : tl σ H fun x H1 => ∃ a, x = .ref a ∧ (∃ xs, SqT K H1 a xs) ∧ R (Itt K a) H1) : iTup K tl σ H R := h
theorem r_itE {ta : TA} {R : It → Hp → Prop} (h : ta σ H fun vs H1 => ∃ a xs, vs = [.ref a] ∧ SqL K H1 a xs ∧ R (Ite K a) H1) : iEnum K ta σ H R := h
theorem r_itET {ta : TA} {R : It → Hp → Prop} (h : ta σ H fun vs H1 => ∃ a xs, vs = [.ref a] ∧ SqT K H1 a xs ∧ R (Itet K a xs) H1) : iEnumT K ta σ H R := h
theorem r_eqB {i j : Bool} (h : Q (.bl (decide (i = j))) H) : rEq (.bl i) (.bl j) H Q := by
  have e : decide (V.bl i = V.bl j) = decide (i = j) := by simp
  exact ⟨rfl, by rw [e]; exact h⟩
theorem r_neB {i j : Bool} (h : Q (.bl (!decide (i = j))) H) : rNe (.bl i) (.bl j) H Q := by
  have e : decide (V.bl i = V.bl j) = decide (i = j) := by simp
  exact ⟨rfl, by rw [e]; exact h⟩
end
/-- an if whose test is known -/
theorem r_ifB {σ : St} {H : Hp} {D : Ends} {tt : TT} {t u : TS} (b : Bool) (ht : ∀ R : Bool → Hp → Prop, R b H → tt σ H R) (h : if b = true then t D σ H else u D σ H) : tIfS tt t u D σ H := ht _ h

/-! ### an attribute as a target among others -/
section
variable {X : Cx} {o : Expr} {ta : TE} {f : Str} {pos : Pos}
def gFld (K : PySem.W.Frag) (ta : TE) (f : Str) : TG := fun v σ H R => ta σ H fun x H1 => ∃ a C dx fs, x = .ref a ∧ H1 a = some (.ins C dx fs) ∧ Cls K C ∧ NoAttr K C f ∧ fs.length < 1000 ∧ R σ (upd H1 a (.ins C dx (putF f v fs)))
theorem pg_fld (ha : PE X o ta) : PG X (.Attribute o f pos) (gFld X.K ta f) := by
  refine ⟨fun pins s σ H v u Q I r h => ?_⟩
  rw [assign_Attribute]
  refine wpAny_bind (wpAny_holding (thn (ha.run pins s σ H _ I h) fun ov s2 ⟨x, H2, I2, rx, a, C, dx, fs, ex, ea, c, n, l, q2⟩ => ?_))
  subst ex
  obtain rfl : ov = Value.ref a := rx
  refine wpAny_bind (wpAny_standAt (wpAny_bind (wpAny_holding ?_)))
  exact setattr_ok I2 ea c n l r fun s3 I3 => wpAny_release ⟨σ, _, I3, q2⟩
end

local macro_rules | `(tactic| walk_at "rv") => `(tactic| ((with_reducible apply r_var); (· rfl)))
local macro_rules | `(tactic| walk_at "rd1") => `(tactic| first
  | (with_reducible refine r_seq ?_)
  | (with_reducible refine r_asg ?_)
  | (with_reducible refine r_name ?_)
  | ((with_reducible apply r_var); (· rfl))
  | (with_reducible refine r_c ?_)
  | (with_reducible refine r_op ?_)
  | (with_reducible refine r_I0 ?_)
  | (with_reducible refine r_eqI ?_)
  | (with_reducible refine r_neI ?_)
  | (with_reducible refine r_eqS ?_)
  | (with_reducible refine r_neS ?_)
  | (with_reducible refine r_cons ?_)
  | (with_reducible refine r_nil ?_)
  | (with_reducible refine r_if ?_)
  | (with_reducible refine r_test ?_)
  | (with_reducible refine r_B ?_)
  | (with_reducible refine r_bl ?_)
  | (with_reducible refine r_ret ?_)
  | (with_reducible refine r_drop ?_)
  | (with_reducible refine r_un ?_)
  | (with_reducible refine r_U ?_)
  | (with_reducible refine r_CB ?_)
  | (with_reducible refine r_call ?_)
  | (with_reducible refine r_retN ?_)
  | (with_reducible refine r_next ?_)
  | (with_reducible refine r_brk ?_)
  | (with_reducible refine r_ifE ?_)
  | (with_reducible refine r_and ?_)
  | (with_reducible refine r_or ?_)
  | (with_reducible refine r_not ?_)
  | (with_reducible refine r_andV ?_)
  | (with_reducible refine r_orV ?_)
  | (with_reducible refine r_notV ?_)
  | (with_reducible refine r_chain ?_)
  | (with_reducible refine r_iteF ?_)
  | (with_reducible refine r_iteT ?_)
  | (with_reducible refine r_iteNT ?_)
  | (with_reducible refine r_iteNF ?_)
  | ((with_reducible apply r_I); (· first | decide | exact ⟨by decide, by decide⟩ | exact .inr ⟨by decide, by decide⟩ | exact .inl ⟨by decide, by decide⟩ | exact ⟨by decide, by decide, by decide⟩))
  | (with_reducible refine r_bm ?_)
  | (with_reducible refine r_bm0 ?_)
  | (with_reducible refine r_sub ?_)
  | (with_reducible refine r_yes ?_)
  | (with_reducible refine r_fld ?_)
  | (with_reducible refine r_sfld ?_)
  | (with_reducible refine r_meth ?_)
  | (with_reducible refine r_prop ?_)
  | (with_reducible refine r_make ?_)
  | (with_reducible refine r_gcons ?_)
  | (with_reducible refine r_gnil ?_)
  | (with_reducible refine r_rfl ?_)
  | (with_reducible refine r_for ?_)
  | (with_reducible refine r_rng1 ?_)
  | (with_reducible refine r_int1 ?_)
  | (with_reducible refine r_abs ?_)
  | (with_reducible refine r_tup ?_)
  | (with_reducible refine r_lst ?_))
local macro_rules | `(tactic| walk_at "rd") => `(tactic| repeat (walk_at "rd1"))
local macro_rules | `(tactic| walk_at "ri1") => `(tactic| first
  | (with_reducible refine r_seq ?_)
  | (with_reducible refine r_asg ?_)
  | (with_reducible refine r_name ?_)
  | ((with_reducible apply r_var); (· rfl))
  | (with_reducible refine r_c ?_)
  | (with_reducible refine r_op ?_)
  | (with_reducible refine r_I0 ?_)
  | (with_reducible refine r_eqI ?_)
  | (with_reducible refine r_neI ?_)
  | (with_reducible refine r_eqS ?_)
  | (with_reducible refine r_neS ?_)
  | (with_reducible refine r_cons ?_)
  | (with_reducible refine r_nil ?_)
  | (with_reducible refine r_test ?_)
  | (with_reducible refine r_B ?_)
  | (with_reducible refine r_bl ?_)
  | (with_reducible refine r_ret ?_)
  | (with_reducible refine r_drop ?_)
  | (with_reducible refine r_un ?_)
  | (with_reducible refine r_U ?_)
  | (with_reducible refine r_CB ?_)
  | (with_reducible refine r_call ?_)
  | (with_reducible refine r_retN ?_)
  | (with_reducible refine r_next ?_)
  | (with_reducible refine r_brk ?_)
  | (with_reducible refine r_ifE ?_)
  | (with_reducible refine r_and ?_)
  | (with_reducible refine r_or ?_)
  | (with_reducible refine r_not ?_)
  | (with_reducible refine r_andV ?_)
  | (with_reducible refine r_orV ?_)
  | (with_reducible refine r_notV ?_)
  | (with_reducible refine r_chain ?_)
  | (with_reducible refine r_iteF ?_)
  | (with_reducible refine r_iteT ?_)
  | (with_reducible refine r_iteNT ?_)
  | (with_reducible refine r_iteNF ?_)
  | ((with_reducible apply r_I); (· first | decide | exact ⟨by decide, by decide⟩ | exact .inr ⟨by decide, by decide⟩ | exact .inl ⟨by decide, by decide⟩ | exact ⟨by decide, by decide, by decide⟩))
  | (with_reducible refine r_bm ?_)
  | (with_reducible refine r_bm0 ?_)
  | (with_reducible refine r_sub ?_)
  | (with_reducible refine r_yes ?_)
  | (with_reducible refine r_fld ?_)
  | (with_reducible refine r_sfld ?_)
  | (with_reducible refine r_meth ?_)
  | (with_reducible refine r_prop ?_)
  | (with_reducible refine r_make ?_)
  | (with_reducible refine r_gcons ?_)
  | (with_reducible refine r_gnil ?_)
  | (with_reducible refine r_rfl ?_)
  | (with_reducible refine r_for ?_)
  | (with_reducible refine r_rng1 ?_)
  | (with_reducible refine r_int1 ?_)
  | (with_reducible refine r_abs ?_)
  | (with_reducible refine r_tup ?_)
  | (with_reducible refine r_lst ?_))
local macro_rules | `(tactic| walk_at "ri") => `(tactic| repeat (walk_at "ri1"))

abbrev C_Base64 (K : Frg) : Addr := He.ga K "Base64"
structure Nm (K : Frg) (mg : Str → Option Value) : Prop where
  divmod : mg "divmod" = none
  range : mg "range" = none
  len : mg "len" = none
  list : mg "list" = none
  abs : mg "abs" = none
  int : mg "int" = none
  ord : mg "ord" = none
  sum : mg "sum" = none
  tuple : mg "tuple" = none
  isinstance : mg "isinstance" = none
  bool : mg "bool" = none
  g_ROWS : ∃ v u, mg "ROWS" = some u ∧ RelV v u ∧ ∀ H, Dp K H v (.tuple [.tuple [.int 65, .int 90, .int 0], .tuple [.int 97, .int 122, .int 26], .tuple [.int 48, .int 57, .int 52], .tuple [.int 43, .int 43, .int 62], .tuple [.int 47, .int 47, .int 63]])
  g_PAD : ∃ u, mg "PAD" = some u ∧ RelV (.int 61) u
  g_DIGITS : ∃ u, mg "DIGITS" = some u ∧ RelV (.str "ABCDEFGHIJKLMNOPQRSTUVWXYZabcdefghijklmnopqrstuvwxyz0123456789+/") u
  cl_Base64 : Cls K (C_Base64 K)
  g_Base64 : mg "Base64" = some (.ref (C_Base64 K))
  mk_Base64 : Mk K (C_Base64 K) (meAd "Base64" "__init__" K)
  na_Base64_octets : NoAttr K (C_Base64 K) "octets"
  na_Base64__digits : NoAttr K (C_Base64 K) "_digits"
  na_Base64__pads : NoAttr K (C_Base64 K) "_pads"
  na_Base64__rest : NoAttr K (C_Base64 K) "_rest"
  pr_Base64_is_whole : PropOf K (C_Base64 K) "is_whole" (He.ma K (C_Base64 K) "is_whole") (prAd "Base64" "is_whole" K)
  me_Base64_take : Meth K (C_Base64 K) "take" (meAd "Base64" "take" K)
  me_Base64__take_pad : Meth K (C_Base64 K) "_take_pad" (meAd "Base64" "_take_pad" K)
  me_Base64__take_digit : Meth K (C_Base64 K) "_take_digit" (meAd "Base64" "_take_digit" K)
  dig : PySem.W.nsIn K cStatics "sys.int_max_str_digits" = some none
def fs_Base64 (x0 x1 x2 x3 : V) : List (Str × V) := [("octets", x0), ("_digits", x1), ("_pads", x2), ("_rest", x3)]
theorem lk_Base64_octets {x0 x1 x2 x3 : V} : (fs_Base64 x0 x1 x2 x3).lookup ("octets" : Str) = some x0 := by
  unfold fs_Base64
  rw [lk_hit]
theorem pt_Base64_octets {x0 x1 x2 x3 y : V} : putF "octets" y (fs_Base64 x0 x1 x2 x3) = fs_Base64 y x1 x2 x3 := by
  unfold fs_Base64
  rw [pf_hit]
theorem in_Base64_octets {x0 : V} : putF "octets" x0 ([] : List (Str × V)) = ([("octets", x0)] : List (Str × V)) := by
  rw [pf_nil]
theorem lk_Base64__digits {x0 x1 x2 x3 : V} : (fs_Base64 x0 x1 x2 x3).lookup ("_digits" : Str) = some x1 := by
  unfold fs_Base64
  rw [lk_miss (by decide +kernel), lk_hit]
theorem pt_Base64__digits {x0 x1 x2 x3 y : V} : putF "_digits" y (fs_Base64 x0 x1 x2 x3) = fs_Base64 x0 y x2 x3 := by
  unfold fs_Base64
  rw [pf_miss (by decide +kernel), pf_hit]
theorem in_Base64__digits {x0 x1 : V} : putF "_digits" x1 ([("octets", x0)] : List (Str × V)) = ([("octets", x0), ("_digits", x1)] : List (Str × V)) := by
  rw [pf_miss (by decide +kernel), pf_nil]
theorem lk_Base64__pads {x0 x1 x2 x3 : V} : (fs_Base64 x0 x1 x2 x3).lookup ("_pads" : Str) = some x2 := by
  unfold fs_Base64
  rw [lk_miss (by decide +kernel), lk_miss (by decide +kernel), lk_hit]
theorem pt_Base64__pads {x0 x1 x2 x3 y : V} : putF "_pads" y (fs_Base64 x0 x1 x2 x3) = fs_Base64 x0 x1 y x3 := by
  unfold fs_Base64
  rw [pf_miss (by decide +kernel), pf_miss (by decide +kernel), pf_hit]
theorem in_Base64__pads {x0 x1 x2 : V} : putF "_pads" x2 ([("octets", x0), ("_digits", x1)] : List (Str × V)) = ([("octets", x0), ("_digits", x1), ("_pads", x2)] : List (Str × V)) := by
  rw [pf_miss (by decide +kernel), pf_miss (by decide +kernel), pf_nil]
theorem lk_Base64__rest {x0 x1 x2 x3 : V} : (fs_Base64 x0 x1 x2 x3).lookup ("_rest" : Str) = some x3 := by
  unfold fs_Base64
  rw [lk_miss (by decide +kernel), lk_miss (by decide +kernel), lk_miss (by decide +kernel), lk_hit]
theorem pt_Base64__rest {x0 x1 x2 x3 y : V} : putF "_rest" y (fs_Base64 x0 x1 x2 x3) = fs_Base64 x0 x1 x2 y := by
  unfold fs_Base64
  rw [pf_miss (by decide +kernel), pf_miss (by decide +kernel), pf_miss (by decide +kernel), pf_hit]
theorem in_Base64__rest {x0 x1 x2 x3 : V} : putF "_rest" x3 ([("octets", x0), ("_digits", x1), ("_pads", x2)] : List (Str × V)) = ([("octets", x0), ("_digits", x1), ("_pads", x2), ("_rest", x3)] : List (Str × V)) := by
  rw [pf_miss (by decide +kernel), pf_miss (by decide +kernel), pf_miss (by decide +kernel), pf_nil]
theorem no_Base64_take {x0 x1 x2 x3 : V} : (fs_Base64 x0 x1 x2 x3).lookup ("take" : Str) = none := by
  unfold fs_Base64
  rw [lk_miss (by decide +kernel), lk_miss (by decide +kernel), lk_miss (by decide +kernel), lk_miss (by decide +kernel)] <;> rfl
theorem no_Base64__take_pad {x0 x1 x2 x3 : V} : (fs_Base64 x0 x1 x2 x3).lookup ("_take_pad" : Str) = none := by
  unfold fs_Base64
  rw [lk_miss (by decide +kernel), lk_miss (by decide +kernel), lk_miss (by decide +kernel), lk_miss (by decide +kernel)] <;> rfl
theorem no_Base64__take_digit {x0 x1 x2 x3 : V} : (fs_Base64 x0 x1 x2 x3).lookup ("_take_digit" : Str) = none := by
  unfold fs_Base64
  rw [lk_miss (by decide +kernel), lk_miss (by decide +kernel), lk_miss (by decide +kernel), lk_miss (by decide +kernel)] <;> rfl
theorem few_Base64 {x0 x1 x2 x3 : V} : (fs_Base64 x0 x1 x2 x3).length < 1000 := by
  show 4 < 1000
  decide

/-! ### numbers by powers of ten -/
theorem pow_bits {b : Int} (hb : b.natAbs < 16) (c : Nat) : (b ^ c).natAbs < 2 ^ (4 * c + 1) := by
  rw [Int.natAbs_pow]
  have h1 : b.natAbs ^ c ≤ 16 ^ c := Nat.pow_le_pow_left (by omega) c
  have h2 : (16 : Nat) ^ c = 2 ^ (4 * c) := by
    rw [Nat.pow_mul]
  have h3 : (2 : Nat) ^ (4 * c) < 2 ^ (4 * c + 1) := Nat.pow_lt_pow_right (by decide) (by omega)
  omega
theorem bits10 (n : Nat) : (10 : Int) ^ n < 2 ^ (4 * n + 1) := by
  have h := pow_bits (b := 10) (by decide) n
  have e : ((10 : Int) ^ n).natAbs = 10 ^ n := by rw [Int.natAbs_pow]; rfl
  rw [e] at h
  have h2 : ((10 ^ n : Nat) : Int) < ((2 ^ (4 * n + 1) : Nat) : Int) := Int.ofNat_lt.mpr h
  rw [Int.natCast_pow, Int.natCast_pow] at h2
  exact h2
theorem abs10 {x : Int} {n : Nat} (h : x.natAbs < 10 ^ n) : x.natAbs < 2 ^ (4 * n + 1) := by
  have h1 := pow_bits (b := 10) (by decide) n
  have e : ((10 : Int) ^ n).natAbs = 10 ^ n := by rw [Int.natAbs_pow]; rfl
  rw [e] at h1
  omega
theorem abs_mul10 {x y : Int} {a b : Nat} (h1 : x.natAbs < 10 ^ a) (h2 : y.natAbs < 10 ^ b) : (x * y).natAbs < 10 ^ (a + b) := by
  rw [Int.natAbs_mul, Nat.pow_add]
  exact Nat.mul_lt_mul'' h1 h2
theorem natAbs10 (n : Nat) : ((10 : Int) ^ n).natAbs = 10 ^ n := by rw [Int.natAbs_pow]; rfl
theorem pow10_le {a b : Nat} (h : a ≤ b) : (10 : Nat) ^ a ≤ 10 ^ b := Nat.pow_le_pow_right (by decide) h
def sp_law (K : PySem.W.Frag) : Sp := sp1 fun a H Q _ => ∃ (sl : Addr) (ns : List Int), a = .ref sl ∧ SqL K H sl (ns.map V.int) ∧ ∀ H', Q (.bl true) H'

/-! ### the law's state: a list of drawn numbers, its place, and the script; every draw is any number below its bound -/
structure SC where
  a : Addr
  nl : Addr
  sl : Addr
  nums : List Int
  ns : List Int
structure LS (K : PySem.W.Frag) (S : SC) (H : Hp) : Prop where
  st : ∃ k l f : Int, H S.a = some (.lst [.ref S.nl, .int k, .int l, .ref S.sl, .int f])
  nm : H S.nl = some (.lst (S.nums.map V.int))
  len : S.nums.length = 120
  ne : S.nl ≠ S.a
  scr : SqL K H S.sl (S.ns.map V.int)
/-- all but the state's own list stays -/
def Keep (S : SC) (H H' : Hp) : Prop := ∀ b o, b ≠ S.a → H b = some o → H' b = some o
theorem Keep.refl (S : SC) (H : Hp) : Keep S H H := fun _ _ _ h => h
theorem Keep.trans {S : SC} {H H1 H2 : Hp} (a : Keep S H H1) (b : Keep S H1 H2) : Keep S H H2 := fun c o n h => b c o n (a c o n h)
theorem Keep.of {S : SC} {H H' : Hp} (h : Same H H') : Keep S H H' := fun b o _ q => h b o q
section
variable {K : PySem.W.Frag} {S : SC} {H H' : Hp}
theorem LS.same (L : LS K S H) (h : Same H H') : LS K S H' := by
  obtain ⟨⟨k, l, f, e⟩, h2, h3, h4, h5⟩ := L
  exact ⟨⟨k, l, f, h _ _ e⟩, h _ _ h2, h3, h4, h.seq h5⟩
theorem LS.new (L : LS K S H) {p : Addr} (h : H p = none) (o : HO) : LS K S (upd H p o) := L.same (same_upd h o)
theorem LS.put (L : LS K S H) (k l f : Int) : LS K S (upd H S.a (.lst [.ref S.nl, .int k, .int l, .ref S.sl, .int f])) := by
  obtain ⟨⟨k', l', f', e⟩, h2, h3, h4, h5⟩ := L
  refine ⟨⟨k, l, f, upd_same⟩, (upd_ne h4).trans h2, h3, h4, ?_⟩
  rcases h5 with (h | ⟨o, h⟩) | h
  · refine .inl (.inl ((upd_ne fun q => ?_).trans h))
    rw [q, e] at h
    injection h with h
    injection h with h
    cases hn : S.ns with
    | nil =>
      rw [hn] at h
      cases h
    | cons x r =>
      rw [hn] at h
      cases h
  · refine .inl (.inr ⟨o, (upd_ne fun q => ?_).trans h⟩)
    rw [q, e] at h
    cases h
  · exact .inr h
theorem Keep.put (o : HO) : Keep S H (upd H S.a o) := fun b u n h => (upd_ne n).trans h
/-- an address that is free later was free before -/
theorem Keep.free (h : Keep S H H') (L : LS K S H') {p : Addr} (hp : H' p = none) : H p = none := by
  have n : p ≠ S.a := fun e => by
    obtain ⟨k, l, f, q⟩ := L.st
    rw [e, q] at hp
    cases hp
  cases e : H p with
  | none => rfl
  | some o =>
    rw [h p o n e] at hp
    cases hp
theorem LS.ne_free (L : LS K S H) {p : Addr} (hp : H p = none) : p ≠ S.a := fun e => by
  obtain ⟨k, l, f, q⟩ := L.st
  rw [e, q] at hp
  cases hp
end
abbrev s__law_cell : Stmt := (top 9)
theorem sc__law_cell : FnScope ["script", "k"] ["script", "k"] (defScope s__law_cell) := ⟨rfl, rfl, rfl, by decide +kernel, rfl, by decide +kernel, by decide +kernel⟩
abbrev s__law_numbers : Stmt := (top 10)
theorem sc__law_numbers : FnScope ["cell", "many", "rest", "size", "numbers", "k", "mixed"] ["cell", "many"] (defScope s__law_numbers) := ⟨rfl, rfl, rfl, by decide +kernel, rfl, by decide +kernel, by decide +kernel⟩
abbrev s__law_state : Stmt := (top 11)
theorem sc__law_state : FnScope ["script", "left", "numbers", "k", "parted"] ["script", "left"] (defScope s__law_state) := ⟨rfl, rfl, rfl, by decide +kernel, rfl, by decide +kernel, by decide +kernel⟩
abbrev s__law_next : Stmt := (top 12)
theorem sc__law_next : FnScope ["state", "many", "at"] ["state", "many"] (defScope s__law_next) := ⟨rfl, rfl, rfl, by decide +kernel, rfl, by decide +kernel, by decide +kernel⟩
abbrev s__law_big : Stmt := (top 13)
theorem sc__law_big : FnScope ["state", "many", "cell"] ["state", "many"] (defScope s__law_big) := ⟨rfl, rfl, rfl, by decide +kernel, rfl, by decide +kernel, by decide +kernel⟩
def sp__law_cell (K : PySem.W.Frag) : Sp := sp2 fun a b H Q _ => ∃ (sl : Addr) (ns : List Int) (k : Int), a = .ref sl ∧ b = .int k ∧ SqL K H sl (ns.map V.int) ∧ 0 ≤ k ∧ ∀ z : Int, Q (.int z) H
def sp__law_numbers : Sp := sp2 fun a b H Q _ => ∃ (z : Int) (n : Nat), a = .int z ∧ b = .int (n : Int) ∧ n ≤ 1000 ∧ ∀ (p : Addr) (xs : List Int), H p = none → xs.length = n → Q (.ref p) (upd H p (.lst (xs.map V.int)))
def sp__law_state (K : PySem.W.Frag) : Sp := sp2 fun a b H Q _ => ∃ (sl : Addr) (ns : List Int) (l : Int), a = .ref sl ∧ b = .int l ∧ SqL K H sl (ns.map V.int) ∧
  ∀ (S : SC) (H' : Hp), S.sl = sl → S.ns = ns → LS K S H' → Same H H' → H S.a = none → Q (.ref S.a) H'
def sp__law_next (K : PySem.W.Frag) : Sp := sp2 fun a b H Q _ => ∃ (S : SC) (m : Int), a = .ref S.a ∧ b = .int m ∧ 0 < m ∧ LS K S H ∧ ∀ (r : Int) (H' : Hp), 0 ≤ r → r < m → LS K S H' → Keep S H H' → Q (.int r) H'
def sp__law_big (K : PySem.W.Frag) : Sp := sp__law_next K
section
variable {P : Program} {w : World} {K : PySem.W.Frag} {mg : Str → Option Value} {base : Heap} {f : Addr} {fd : FuncData}
theorem ok__law_cell (F : FunD K "_law_cell" "_law_cell" (defArgs s__law_cell) (defBody s__law_cell) (defScope s__law_cell) [] [] (glAd "_law_cell" K) fd) (m : mg "_law_cell" = some (.ref (glAd "_law_cell" K))) (nb : Nm K mg) : Cal P w K mg base 1 "_law_cell" (sp__law_cell K) [] := by
  refine calD F m sc__law_cell (fun _ _ _ _ _ _ us hl => match us, hl with | [_, _], _ => rfl) len2 (fun cdv A outer s H vs Q E hr h => ⟨_, (pss_cons (ps_if (pt_cmpR op_lt (pv 1) (pe_callB call_len_seq (by rfl) nb.len PySem.boot_len (pa_cons (pv 0) pa_nil)) (nomark _))
    (pss_one (ps_ret (pe_ix ix_list (pv 0) (pv 1) (fun _ _ => rfl))))
    pss_nil)
    (pss_one (ps_ret pe_int))), ?_⟩)
  obtain ⟨_, _, rfl, sl, ns, k, rfl, rfl, hs, h0, h⟩ := h
  walk_at "rd"
  refine ⟨_, _, rfl, .inl hs, ?_⟩
  walk_at "rd"
  refine r_ite (fun c => ?_) (fun c => ?_)
  · rw [List.length_map] at c
    obtain ⟨v, _, e⟩ := atI_ints h0 c
    walk_at "rd"
    exact r_ixL hs e (h v)
  · walk_at "rd"
    exact h 0
theorem ok__law_numbers (F : FunD K "_law_numbers" "_law_numbers" (defArgs s__law_numbers) (defBody s__law_numbers) (defScope s__law_numbers) [] [] (glAd "_law_numbers" K) fd) (m : mg "_law_numbers" = some (.ref (glAd "_law_numbers" K))) (nb : Nm K mg) : Cal P w K mg base 1 "_law_numbers" sp__law_numbers [] := by
  refine calD F m sc__law_numbers (fun _ _ _ _ _ _ us hl => match us, hl with | [_, _], _ => rfl) len2 (fun cdv A outer s H vs Q E hr h => ⟨_, (pss_cons (ps_set (i := 2) sc__law_numbers.nd rfl (Or.inl rfl) (pe_callB call_abs (by rfl) nb.abs (by decide +kernel) (pa_cons (pv 0) pa_nil)))
    (pss_cons (ps_set (i := 3) sc__law_numbers.nd rfl (Or.inl rfl) (pv 2))
    (pss_cons (ps_set (i := 4) sc__law_numbers.nd rfl (Or.inl rfl) (pe_lst pa_nil))
    (pss_cons (ps_for PassesOwn.never rfl (pi_range1 rfl nb.range (pa_cons (pv 1) pa_nil)) (pg_name (i := 5) sc__law_numbers.nd rfl (Or.inl rfl))
    (pss_one (ps_if (PW.pt (pw_and (pt_cmpR op_ge (pv 3) (pe_op op_pow pe_int pe_int) (nomark _)) (pw_and1 (pt_cmpR op_gt (pv 2) pe_int (nomark _)))))
    (pss_cons (ps_expr (pe_bm PySem.F.plainAttrs_list PySem.F.slot_list_append PySem.F.type_list_append mt_append (pv 4) (pa_cons (pe_op op_mod (pe_callTy call_int1 (by rfl) nb.int (by decide +kernel) (pa_cons (pv 2) pa_nil)) pe_int) pa_nil)))
    (pss_one (ps_set (i := 2) sc__law_numbers.nd rfl (Or.inl rfl) (pe_op op_fdiv (pv 2) pe_int))))
    (pss_cons (ps_set (i := 6) sc__law_numbers.nd rfl (Or.inl rfl) (pe_op op_mod (pe_callTy call_int1 (by rfl) nb.int (by decide +kernel) (pa_cons (pe_op op_add (pe_op op_add (pe_op op_mul (pv 3) pe_int) (pe_op op_mul (pv 5) pe_int)) pe_int) pa_nil)) pe_int))
    (pss_cons (ps_set (i := 6) sc__law_numbers.nd rfl (Or.inl rfl) (pe_op op_mod (pe_callTy call_int1 (by rfl) nb.int (by decide +kernel) (pa_cons (pe_op op_add (pe_op op_add (pe_op op_mul (pv 6) (pv 6)) (pe_op op_mul pe_int (pv 5))) pe_int) pa_nil)) pe_int))
    (pss_one (ps_expr (pe_bm PySem.F.plainAttrs_list PySem.F.slot_list_append PySem.F.type_list_append mt_append (pv 4) (pa_cons (pe_op op_mod (pe_callTy call_int1 (by rfl) nb.int (by decide +kernel) (pa_cons (pe_op op_fdiv (pv 6) pe_int) pa_nil)) pe_int) pa_nil)))))))))
    (pss_one (ps_ret (pv 4))))))), ?_⟩)
  obtain ⟨_, _, rfl, z, n, rfl, rfl, hn, h⟩ := h
  walk_at "rd"
  refine ⟨Nat.zero_le _, fun p hp => ?_⟩
  walk_at "rd"
  refine r_turns (by omega) (by omega) (fun i σ H' => ∃ (rest size : Int) (xs : List Int) (k mx : Option V), σ = [some (.int z), some (.int (n : Int)), some (.int rest), some (.int size), some (.ref p), k, mx] ∧ xs.length = i ∧ H' = upd H p (.lst (xs.map V.int))) ⟨_, _, [], none, none, rfl, rfl, rfl⟩ ?_ ?_
  · rintro i σ _ hi ⟨rest, size, xs, k, mx, rfl, hl, rfl⟩
    have hsz : (xs.map V.int).length < sizeLine := small1000 (by rw [List.length_map]; omega)
    have app : ∀ y : Int, upd (upd H p (.lst (xs.map V.int))) p (.lst (xs.map V.int ++ [.int y])) = upd H p (.lst ((xs ++ [y]).map V.int)) := fun y => by
      rw [upd_upd, List.map_append]
      rfl
    have two : ∀ r : Int, ∀ (σ' : St) (k mx : Option V) (rest size : Int), σ' = [some (.int z), some (.int (n : Int)), some (.int rest), some (.int size), some (.ref p), k, mx] → ∃ (rest size : Int) (xs' : List Int) (k mx : Option V), σ' = [some (.int z), some (.int (n : Int)), some (.int rest), some (.int size), some (.ref p), k, mx] ∧ xs'.length = i + 1 ∧ upd (upd H p (.lst (xs.map V.int))) p (.lst (xs.map V.int ++ [.int r])) = upd H p (.lst (xs'.map V.int)) := fun r σ' k mx rest size e =>
      ⟨rest, size, xs ++ [r], k, mx, e, by rw [List.length_append, hl]; rfl, app r⟩
    walk_at "rd"
    refine r_ite (fun c1 => ?_) (fun c1 => ?_)
    · walk_at "rd"
      refine r_ite (fun c2 => ?_) (fun c2 => ?_)
      · walk_at "rd"
        refine ⟨tyL upd_same, ?_⟩
        walk_at "rd"
        refine r_app upd_same hsz ?_
        walk_at "rd"
        exact two _ _ _ _ _ _ rfl
      · walk_at "rd"
        refine r_I (.inl ⟨by omega, by omega⟩) ?_
        walk_at "rd"
        refine ⟨tyL upd_same, ?_⟩
        walk_at "rd"
        refine r_app upd_same hsz ?_
        walk_at "rd"
        exact two _ _ _ _ _ _ rfl
    · walk_at "rd"
      refine r_I (.inl ⟨by omega, by omega⟩) ?_
      walk_at "rd"
      refine ⟨tyL upd_same, ?_⟩
      walk_at "rd"
      refine r_app upd_same hsz ?_
      walk_at "rd"
      exact two _ _ _ _ _ _ rfl
  · rintro σ _ ⟨rest, size, xs, k, mx, rfl, hl, rfl⟩
    walk_at "rd"
    exact h p xs hp (by omega)
theorem ok__law_next (F : FunD K "_law_next" "_law_next" (defArgs s__law_next) (defBody s__law_next) (defScope s__law_next) [] [] (glAd "_law_next" K) fd) (m : mg "_law_next" = some (.ref (glAd "_law_next" K))) (nb : Nm K mg) : Cal P w K mg base 1 "_law_next" (sp__law_next K) [] := by
  refine calD F m sc__law_next (fun _ _ _ _ _ _ us hl => match us, hl with | [_, _], _ => rfl) len2 (fun cdv A outer s H vs Q E hr h => ⟨_, (pss_cons (ps_set (i := 2) sc__law_next.nd rfl (Or.inl rfl) (pe_ix ix_list (pv 0) pe_int (fun _ _ => rfl)))
    (pss_cons (ps_asg (pe_op op_add (pv 2) pe_int) (pg_sub (pv 0) pe_int set_list))
    (pss_one (ps_ret (pe_op op_mod (pe_callTy call_int1 (by rfl) nb.int (by decide +kernel) (pa_cons (pe_op op_add (pe_ix ix_list (pe_ix ix_list (pv 0) pe_int (fun _ _ => rfl)) (pe_op op_mod (pv 2) pe_int) (fun _ _ => rfl)) (pe_op op_mul pe_int (pe_op op_fdiv (pv 2) pe_int))) pa_nil)) (pv 1)))))), ?_⟩)
  obtain ⟨_, _, rfl, S, mm, rfl, rfl, h0, L, h⟩ := h
  obtain ⟨k, l, f5, e⟩ := L.st
  walk_at "rd"
  refine r_ixL (SqL.of e) rfl ?_
  walk_at "rd"
  refine r_setL e rfl ?_
  walk_at "rd"
  have L2 := L.put (k + 1) l f5
  obtain ⟨v, _, ev⟩ := atI_ints (ns := S.nums) (k := k % 120) (by omega) (by rw [L.len]; omega)
  refine r_ixL (SqL.of upd_same) rfl ?_
  walk_at "rd"
  refine r_ixL (SqL.of L2.nm) ev ?_
  walk_at "rd"
  refine r_I h0 ?_
  exact h _ _ (Int.emod_nonneg _ (by omega)) (Int.emod_lt_of_pos _ h0) L2 (Keep.put _)
theorem ok__law_big (F : FunD K "_law_big" "_law_big" (defArgs s__law_big) (defBody s__law_big) (defScope s__law_big) [] [] (glAd "_law_big" K) fd) (m : mg "_law_big" = some (.ref (glAd "_law_big" K))) (nb : Nm K mg) (c__law_cell : Cal P w K mg base 1 "_law_cell" (sp__law_cell K) []) (c__law_next : Cal P w K mg base 1 "_law_next" (sp__law_next K) []) : Cal P w K mg base 2 "_law_big" (sp__law_big K) [] := by
  refine calD F m sc__law_big (fun _ _ _ _ _ _ us hl => match us, hl with | [_, _], _ => rfl) len2 (fun cdv A outer s H vs Q E hr h => ⟨_, (pss_cons (ps_set (i := 2) sc__law_big.nd rfl (Or.inl rfl) (pe_callB call_abs (by rfl) nb.abs (by decide +kernel) (pa_cons (pe_c c__law_cell hr (by decide) rfl (pa_cons (pe_ix ix_list (pv 0) pe_int (fun _ _ => rfl)) (pa_cons (pe_op op_add pe_int (pe_c c__law_next hr (by decide) rfl (pa_cons (pv 0) (pa_cons pe_int pa_nil)))) pa_nil))) pa_nil)))
    (pss_one (ps_ret (pe_op op_mod (pe_callTy call_int1 (by rfl) nb.int (by decide +kernel) (pa_cons (pe_op op_add (pe_op op_mul (pv 2) pe_int) (pe_c c__law_next hr (by decide) rfl (pa_cons (pv 0) (pa_cons pe_int pa_nil)))) pa_nil)) (pv 1))))), ?_⟩)
  obtain ⟨_, _, rfl, S, mm, rfl, rfl, h0, L, h⟩ := h
  obtain ⟨k, l, f5, e⟩ := L.st
  walk_at "rd"
  refine r_ixL (SqL.of e) rfl ?_
  walk_at "rd"
  refine ⟨_, _, rfl, S, _, rfl, rfl, by decide, L, fun r1 H1 a1 b1 L1 K1 => ?_⟩
  walk_at "rd"
  refine ⟨_, _, rfl, S.sl, S.ns, _, rfl, rfl, L1.scr, by omega, fun z => ?_⟩
  walk_at "rd"
  refine ⟨_, _, rfl, S, _, rfl, rfl, by decide, L1, fun r2 H2 a2 b2 L2 K2 => ?_⟩
  walk_at "rd"
  refine r_I h0 ?_
  exact h _ _ (Int.emod_nonneg _ (by omega)) (Int.emod_lt_of_pos _ h0) L2 (K1.trans K2)
theorem ok__law_state (F : FunD K "_law_state" "_law_state" (defArgs s__law_state) (defBody s__law_state) (defScope s__law_state) [] [] (glAd "_law_state" K) fd) (m : mg "_law_state" = some (.ref (glAd "_law_state" K))) (nb : Nm K mg) (c__law_cell : Cal P w K mg base 1 "_law_cell" (sp__law_cell K) []) (c__law_numbers : Cal P w K mg base 1 "_law_numbers" sp__law_numbers []) : Cal P w K mg base 2 "_law_state" (sp__law_state K) [] := by
  refine calD F m sc__law_state (fun _ _ _ _ _ _ us hl => match us, hl with | [_, _], _ => rfl) len2 (fun cdv A outer s H vs Q E hr h => ⟨_, (pss_cons (ps_set (i := 2) sc__law_state.nd rfl (Or.inl rfl) (pe_lst pa_nil))
    (pss_cons (ps_setLc (i := 4) (own := [("k", 3)]) (g := gName 3) (tt := tYes) rfl sc__law_state.nd rfl rfl (sw_true rfl rfl rfl (by decide +kernel)) (pi_range1 rfl nb.range (pa_cons pe_int pa_nil)) (blkOk_by (N := ["script", "left", "numbers", "k", "parted"]) (sc := defScope s__law_state) (by decide +kernel)) (fun _ _ _ _ _ => pg_name (i := 3) sc__law_state.nd rfl (Or.inl rfl)) (fun _ _ _ _ _ => pts_nil) (fun _ _ _ _ _ => (pe_c c__law_numbers hr (by decide) rfl (pa_cons (pe_c c__law_cell hr (by decide) rfl (pa_cons (pv 0) (pa_cons (pv 3) pa_nil))) (pa_cons pe_int pa_nil)))))
    (pss_cons (ps_for PassesOwn.never rfl (pi_range1 rfl nb.range (pa_cons pe_int pa_nil)) (pg_name (i := 3) sc__law_state.nd rfl (Or.inl rfl))
    (pss_cons (ps_expr (pe_bm PySem.F.plainAttrs_list PySem.F.slot_list_append PySem.F.type_list_append mt_append (pv 2) (pa_cons (pe_ix ix_list (pe_ix ix_list (pv 4) pe_int (fun _ _ => rfl)) (pv 3) (fun _ _ => rfl)) pa_nil)))
    (pss_cons (ps_expr (pe_bm PySem.F.plainAttrs_list PySem.F.slot_list_append PySem.F.type_list_append mt_append (pv 2) (pa_cons (pe_ix ix_list (pe_ix ix_list (pv 4) pe_int (fun _ _ => rfl)) (pv 3) (fun _ _ => rfl)) pa_nil)))
    (pss_one (ps_expr (pe_bm PySem.F.plainAttrs_list PySem.F.slot_list_append PySem.F.type_list_append mt_append (pv 2) (pa_cons (pe_ix ix_list (pe_ix ix_list (pv 4) pe_int (fun _ _ => rfl)) (pv 3) (fun _ _ => rfl)) pa_nil)))))))
    (pss_one (ps_ret (pe_lst (pa_cons (pv 2) (pa_cons pe_int (pa_cons (pv 1) (pa_cons (pv 0) (pa_cons pe_int pa_nil))))))))))), ?_⟩)
  obtain ⟨_, _, rfl, sl, ns, l, rfl, rfl, hs, h⟩ := h
  walk_at "rd"
  refine ⟨Nat.zero_le _, fun p hp => ?_⟩
  walk_at "rd"
  refine r_lcR 3 (by decide) (fun D hD => ?_) (fun R hR => hR)
  have sp0 := same_upd hp (.lst [])
  have pD : p ≠ D := fun e => by
    rw [← e, upd_same] at hD
    cases hD
  refine lc_range (fun i H' => ∃ ps : List Addr, H' D = some (.lst (ps.map V.ref)) ∧ ps.length = i ∧ (∀ q ∈ ps, q ≠ D ∧ ∃ xs : List Int, H' q = some (.lst (xs.map V.int)) ∧ xs.length = 40) ∧ Same (upd H p (.lst [])) H') ⟨[], upd_same, rfl, fun q hq => (by cases hq), same_upd hD _⟩ ?_ ?_
  · rintro i H' hi ⟨ps, e1, e2, e3, e4⟩
    walk_at "rd"
    refine ⟨rfl, ?_⟩
    walk_at "rd"
    have hs' : SqL K H' sl (ns.map V.int) := e4.seq (sp0.seq hs)
    refine ⟨_, _, rfl, sl, ns, _, rfl, rfl, hs', by omega, fun z => ?_⟩
    walk_at "rd"
    refine ⟨_, _, rfl, z, 40, rfl, rfl, by decide, fun q xs hq hx => ?_⟩
    have Dq : D ≠ q := ne_of_none e1 hq
    refine ⟨_, (upd_ne Dq).trans e1, small1000 (by rw [List.length_map]; omega), ps ++ [q], ?_, by rw [List.length_append, e2]; rfl, ?_, ?_⟩
    · rw [upd_same, List.map_append]
      rfl
    · intro q' hq'
      rcases List.mem_append.mp hq' with h1 | h1
      · obtain ⟨n1, xs', x1, x2⟩ := e3 q' h1
        exact ⟨n1, xs', by rw [upd_ne n1, upd_ne (ne_of_none x1 hq)]; exact x1, x2⟩
      · have e5 : q' = q := by simpa using h1
        subst e5
        exact ⟨Ne.symm Dq, xs, by rw [upd_ne (Ne.symm Dq), upd_same], hx⟩
    · intro b o hb
      have hb2 := e4 b o hb
      rw [upd_ne (ne_of_none hb hD), upd_ne (ne_of_none hb2 hq)]
      exact hb2
  · rintro H' ⟨ps, e1, e2, e3, e4⟩
    walk_at "rd"
    obtain ⟨p0, p1, p2, rfl⟩ : ∃ p0 p1 p2, ps = [p0, p1, p2] := match ps, e2 with | [a, b, c], _ => ⟨a, b, c, rfl⟩
    obtain ⟨_, x0, y0, z0⟩ := e3 p0 (by simp)
    obtain ⟨_, x1, y1, z1⟩ := e3 p1 (by simp)
    obtain ⟨_, x2, y2, z2⟩ := e3 p2 (by simp)
    have hp' : H' p = some (.lst []) := e4 _ _ upd_same
    have ne0 : ∀ {q : Addr} {xs : List Int}, H' q = some (.lst (xs.map V.int)) → xs.length = 40 → q ≠ p := fun {q xs} h1 h2 h3 => by
      rw [h3, hp'] at h1
      injection h1 with h1
      injection h1 with h1
      have h4 := congrArg List.length h1
      rw [List.length_map, h2] at h4
      cases h4
    have n0 := ne0 y0 z0
    have n1 := ne0 y1 z1
    have n2 := ne0 y2 z2
    have nD : D ≠ p := Ne.symm pD
    have fit : ∀ (xs : List Int) (i : Nat), xs.length = 40 → (i : Int) < 40 → ∃ v, atI (xs.map V.int) (i : Int) = some (.int v) := fun xs i h1 h2 => by
      obtain ⟨v, _, e⟩ := atI_ints (ns := xs) (k := (i : Int)) (by omega) (by omega)
      exact ⟨v, e⟩
    refine r_turns (by decide) (by decide) (fun i σ H2 => ∃ (zs : List Int) (kk : Option V), σ = [some (.ref sl), some (.int l), some (.ref p), kk, some (.ref D)] ∧ zs.length = 3 * i ∧ H2 = upd H' p (.lst (zs.map V.int))) ⟨[], none, rfl, rfl, ?_⟩ ?_ ?_
    · funext b
      by_cases c : b = p
      · subst c
        rw [upd_same, hp']
        rfl
      · rw [upd_ne c]
    · rintro i σ _ hi ⟨zs, kk, rfl, hz, rfl⟩
      obtain ⟨v0, a0⟩ := fit x0 i z0 hi
      obtain ⟨v1, a1⟩ := fit x1 i z1 hi
      obtain ⟨v2, a2⟩ := fit x2 i z2 hi
      walk_at "rd"
      refine ⟨tyL upd_same, ?_⟩
      walk_at "rd"
      refine r_ixL (SqL.of ((upd_ne nD).trans e1)) rfl ?_
      walk_at "rd"
      refine r_ixL (SqL.of ((upd_ne n0).trans y0)) a0 ?_
      walk_at "rd"
      refine r_app upd_same (small1000 (by rw [List.length_map]; omega)) ?_
      rw [upd_upd]
      walk_at "rd"
      refine ⟨tyL upd_same, ?_⟩
      walk_at "rd"
      refine r_ixL (SqL.of ((upd_ne nD).trans e1)) rfl ?_
      walk_at "rd"
      refine r_ixL (SqL.of ((upd_ne n1).trans y1)) a1 ?_
      walk_at "rd"
      refine r_app upd_same (small1000 (by rw [List.length_append, List.length_map]; show zs.length + 1 ≤ 1000; omega)) ?_
      rw [upd_upd]
      walk_at "rd"
      refine ⟨tyL upd_same, ?_⟩
      walk_at "rd"
      refine r_ixL (SqL.of ((upd_ne nD).trans e1)) rfl ?_
      walk_at "rd"
      refine r_ixL (SqL.of ((upd_ne n2).trans y2)) a2 ?_
      walk_at "rd"
      refine r_app upd_same (small1000 (by rw [List.length_append, List.length_append, List.length_map]; show zs.length + 1 + 1 ≤ 1000; omega)) ?_
      rw [upd_upd]
      exact ⟨zs ++ [v0] ++ [v1] ++ [v2], _, rfl, by simp [hz]; omega, by simp⟩
    · rintro σ _ ⟨zs, kk, rfl, hz, rfl⟩
      walk_at "rd"
      refine ⟨(by show 5 ≤ sizeLine; decide), fun a ha => ?_⟩
      have sa := same_upd ha (.lst [.ref p, .int 0, .int l, .ref sl, .int 3])
      have pa : p ≠ a := ne_of_none upd_same ha
      have all : Same H (upd H' p (.lst (zs.map V.int))) := fun b o hb => by
        rw [upd_ne (ne_of_none hb hp)]
        exact e4 _ _ (sp0 _ _ hb)
      have hsl : SqL K H sl (ns.map V.int) := hs
      refine h ⟨a, p, sl, zs, ns⟩ _ rfl rfl ⟨⟨0, l, 3, upd_same⟩, (upd_ne pa).trans upd_same, by rw [hz]; rfl, pa, sa.seq (all.seq hs)⟩ (all.trans sa) (all.free ha)
end

/-! ### draws -/
section
variable {K : PySem.W.Frag} {S : SC} {σ : St} {H : Hp} {Q : VK} {E : XK}
theorem d_next {m : Int} (L : LS K S H) (hm : 0 < m) (h : ∀ (r : Int) (H' : Hp), 0 ≤ r → r < m → LS K S H' → Keep S H H' → Q (.int r) H') : sp__law_next K ([.ref S.a, .int m] ++ []) H Q E := ⟨_, _, rfl, S, m, rfl, rfl, hm, L, h⟩
/-- a new object -/
theorem d_new {o : HO} {R : Addr → Hp → Prop} {c : Prop} (L : LS K S H) (hc : c) (h : ∀ (p : Addr) (H' : Hp), LS K S H' → Keep S H H' → Same H H' → H p = none → H' p = some o → p ≠ S.a → R p H') : c ∧ ∀ p, H p = none → R p (upd H p o) :=
  ⟨hc, fun p hp => h p _ (L.new hp o) (Keep.of (same_upd hp o)) (same_upd hp o) hp upd_same (L.ne_free hp)⟩
theorem d_newI {zs : List Int} {R : Addr → Hp → Prop} {c : Prop} (L : LS K S H) (hc : c) (h : ∀ (p : Addr) (H' : Hp), LS K S H' → Keep S H H' → Same H H' → H p = none → H' p = some (.lst (zs.map V.int)) → p ≠ S.a → R p H') : c ∧ ∀ p, H p = none → R p (upd H p (.lst (zs.map V.int))) := d_new L hc h
/-- [x, y, ..][_law_next(state, n)] -/
theorem d_pick {xs : List V} {n : Int} {i : Nat} (L : LS K S H) (e : σ[i]? = some (some (.ref S.a))) (hl : xs.length ≤ sizeLine) (hn : 0 < n) (hx : (xs.length : Int) = n)
    (h : ∀ (v : V) (H' : Hp), v ∈ xs → LS K S H' → Keep S H H' → Q v H') :
    xs.length ≤ sizeLine ∧ ∀ p, H p = none → tCall (sp__law_next K) [] E (tCons (tVar i) (tCons (tC (.int n)) tNil)) σ (upd H p (.lst xs)) fun y H2 => rIxL K (.ref p) y H2 Q := by
  refine ⟨hl, fun p hp => ⟨_, e, ?_⟩⟩
  show sp__law_next K ([.ref S.a, .int n] ++ []) (upd H p (.lst xs)) (fun y H2 => rIxL K (.ref p) y H2 Q) E
  refine d_next (L.new hp _) hn fun r H' h0 h1 L' k => ?_
  have hr : r.toNat < xs.length := by omega
  have er : r = ((r.toNat : Nat) : Int) := by omega
  refine ⟨p, xs, r, xs[r.toNat], rfl, rfl, SqL.of (k _ _ (L.ne_free hp) upd_same), ?_, ?_⟩
  · have q := atI_nat (xs := xs) (j := r.toNat) (v := xs[r.toNat]) (List.getElem?_eq_getElem hr)
    rw [← er] at q
    exact q
  · exact h _ _ (List.getElem_mem hr) L' ((Keep.of (same_upd hp _)).trans k)
/-- the same, all of them numbers from lo to hi -/
theorem d_pickI {xs : List V} {n : Int} {i : Nat} (lo hi : Int) (L : LS K S H) (e : σ[i]? = some (some (.ref S.a))) (hl : xs.length ≤ sizeLine) (hn : 0 < n) (hx : (xs.length : Int) = n) (hz : ∀ v ∈ xs, ∃ z, v = V.int z ∧ lo ≤ z ∧ z ≤ hi)
    (h : ∀ (z : Int) (H' : Hp), lo ≤ z → z ≤ hi → V.int z ∈ xs → LS K S H' → Keep S H H' → Q (.int z) H') :
    xs.length ≤ sizeLine ∧ ∀ p, H p = none → tCall (sp__law_next K) [] E (tCons (tVar i) (tCons (tC (.int n)) tNil)) σ (upd H p (.lst xs)) fun y H2 => rIxL K (.ref p) y H2 Q :=
  d_pick L e hl hn hx fun v H' hv L' k => by
    obtain ⟨z, rfl, h1, h2⟩ := hz v hv
    exact h z H' h1 h2 hv L' k
theorem all_nil {p : V → Prop} : ∀ v ∈ ([] : List V), p v := fun v hv => by cases hv
theorem all_cons {p : V → Prop} {x : V} {xs : List V} (h : p x) (t : ∀ v ∈ xs, p v) : ∀ v ∈ x :: xs, p v := fun v hv => by
  rcases List.mem_cons.mp hv with e | e
  · rw [e]
    exact h
  · exact t v e
end

/-! ### slices, comprehensions, objects: rules of general use -/
section
variable {σ : St} {H : Hp} {n b c : St → Hp → Prop} {r : VK} {Q : VK} {K : Frg} {a C dx : Addr} {fs : List (Str × V)} {f : Str} {v : V}
theorem r_fsetK {R : Hp → Prop} {fs' : List (Str × V)} (h : H a = some (.ins C dx fs)) (cl : Cls K C) (na : NoAttr K C f) (hl : fs.length < 1000) (e : putF f v fs = fs') (q : ∀ H', H' a = some (.ins C dx fs') → (∀ b, b ≠ a → H' b = H b) → R H') :
    ∃ a' C dx fs, V.ref a = .ref a' ∧ H a' = some (.ins C dx fs) ∧ Cls K C ∧ NoAttr K C f ∧ fs.length < 1000 ∧ R (upd H a' (.ins C dx (putF f v fs))) := r_fset h cl na hl e (q _ upd_same fun _ hb => upd_ne hb)
theorem r_appK {p : Addr} {xs : List V} {y : V} (h : H p = some (.lst xs)) (hl : xs.length < sizeLine) (q : ∀ H', H' p = some (.lst (xs ++ [y])) → (∀ b, b ≠ p → H' b = H b) → Q .non H') : rAppend (.ref p) [y] H Q := r_app h hl (q _ upd_same fun _ hb => upd_ne hb)
theorem r_gfldV {R : St → Hp → Prop} {fs' : List (Str × V)} {k : Nat} (ek : σ[k]? = some (some (.ref a))) (h : H a = some (.ins C dx fs)) (cl : Cls K C) (na : NoAttr K C f) (hl : fs.length < 1000) (e : putF f v fs = fs') (q : ∀ H', H' a = some (.ins C dx fs') → (∀ b, b ≠ a → H' b = H b) → R σ H') : gFld K (tVar k) f v σ H R :=
  ⟨_, ek, a, C, dx, fs, rfl, h, cl, na, hl, by rw [e]; exact q _ upd_same fun _ hb => upd_ne hb⟩
end
def But (a l : Addr) (H H' : Hp) : Prop := ∀ b u, b ≠ a → b ≠ l → H b = some u → H' b = some u
theorem map_snoc (ps : List Int) (x : Int) : ps.map V.int ++ [V.int x] = (ps ++ [x]).map V.int := by simp
theorem dp_tup {K : Frg} {H : Hp} {v : V} {ds : List PyData} (h : Dp K H v (.tuple ds)) : ∃ a xs, v = .ref a ∧ SqT K H a xs ∧ DpAll K H xs ds := by
  cases h
  exact ⟨_, _, rfl, by assumption, by assumption⟩
theorem dp_get {K : Frg} {H : Hp} : ∀ {xs : List V} {ds : List PyData} {i : Nat} {x : V}, DpAll K H xs ds → xs[i]? = some x → ∃ d, ds[i]? = some d ∧ Dp K H x d
  | [], _, _, _, _, e => by cases e
  | x :: xs, _, 0, _, .cons h t, e => by
    cases e
    exact ⟨_, rfl, h⟩
  | x :: xs, _, i + 1, _, .cons h t, e => by
    obtain ⟨d, e1, h1⟩ := dp_get (i := i) t e
    exact ⟨d, e1, h1⟩
theorem dp_len {K : Frg} {H : Hp} : ∀ {xs : List V} {ds : List PyData}, DpAll K H xs ds → xs.length = ds.length
  | [], _, .nil => rfl
  | _ :: _, _, .cons _ t => congrArg (· + 1) (dp_len t)
theorem dp_ints {K : Frg} {H : Hp} : ∀ {xs : List V} (ns : List Int), DpAll K H xs (ns.map PyData.int) → xs = ns.map V.int
  | _, [], h => by
    cases h
    rfl
  | _, n :: ns, h => by
    cases h with
    | cons h t =>
      cases h
      rw [dp_ints ns t]
      rfl
theorem dpa_ints {K : Frg} {H : Hp} : ∀ (ns : List Int), DpAll K H (ns.map V.int) (ns.map PyData.int)
  | [] => .nil
  | n :: ns => .cons (.int n) (dpa_ints ns)
theorem shaped_ints (ns : List Int) : SeqAt.shaped (.list (ns.map PyData.int)) = true := PySem.W.ke_shaped_ints ns
theorem ints_get {cs : List Int} {i : Nat} {x : V} (e : (cs.map V.int)[i]? = some x) : ∃ c, cs[i]? = some c ∧ x = .int c ∧ cs.take (i + 1) = cs.take i ++ [c] := by
  rw [List.getElem?_map] at e
  obtain ⟨c, h, rfl⟩ := Option.map_eq_some_iff.mp e
  refine ⟨c, h, rfl, ?_⟩
  rw [List.take_succ, h]
  rfl
theorem ints_step {cs : List Int} {i : Nat} {c : Int} (h : cs[i]? = some c) : cs.take (i + 1) = cs.take i ++ [c] := by
  rw [List.take_succ, h]
  rfl
/-- the state stays when a place changes that was free at an earlier heap -/
theorem LS.away {K : PySem.W.Frag} {S : SC} {H1 H' : Hp} (L1 : LS K S H1) {D : Addr} (hD : H1 D = none) (L : LS K S H') (o : HO) : LS K S (upd H' D o) := by
  obtain ⟨⟨k, l, f, e⟩, h2, h3, h4, h5⟩ := L1
  obtain ⟨⟨k', l', f', e'⟩, h2', _, _, h5'⟩ := L
  have n : ∀ {b : Addr} {u : HO}, H1 b = some u → b ≠ D := fun h z => by
    rw [z, hD] at h
    cases h
  refine ⟨⟨k', l', f', (upd_ne (n e)).trans e'⟩, (upd_ne (n h2)).trans h2', h3, h4, ?_⟩
  rcases h5 with (h | ⟨u, h⟩) | h
  · exact seq_upd h5' (n h)
  · exact seq_upd h5' (n h)
  · exact .inr h
theorem r_sl {σ : St} {H : Hp} {Q : VK} {r : V → Option Int → Option Int → Hp → VK → Prop} {te : TE} {tl th : TO} (h : te σ H fun x H1 => tl σ H1 fun l H2 => th σ H2 fun u H3 => r x l u H3 Q) : tSl r te tl th σ H Q := h
theorem r_part {σ : St} {H : Hp} {t : TE} {Q : Option Int → Hp → Prop} (h : t σ H fun x H1 => ∃ i, x = .int i ∧ Q (some i) H1) : tPart t σ H Q := h
theorem r_some {i : Int} {Q : Option Int → Prop} (h : Q (some i)) : ∃ j, V.int i = .int j ∧ Q (some j) := ⟨i, rfl, h⟩
theorem r_nopart {σ : St} {H : Hp} {Q : Option Int → Hp → Prop} (h : Q none H) : tNoPart σ H Q := h
theorem r_slL {K : PySem.W.Frag} {p : Addr} {xs : List V} {lo hi : Option Int} {H : Hp} {Q : VK} (hs : SqL K H p xs) (h : ∀ q, H q = none → Q (.ref q) (upd H q (.lst (cutV xs lo hi)))) : rSlL K (.ref p) lo hi H Q := ⟨p, xs, rfl, hs, h⟩
theorem cut_tl {v : V} {xs : List V} : cutV (v :: xs) (some 1) none = xs := by
  have e : HT.sIx (v :: xs).length 0 (some 1) = 1 := (HT.sIx_nat (v :: xs).length 0 1).trans (by show min 1 (xs.length + 1) = 1; omega)
  unfold cutV
  rw [e, HT.sIx_none]
  show xs.take (xs.length + 1 - 1) = xs
  simp
theorem r_min2 {σ : St} {H : Hp} {Q : VK} {K : PySem.W.Frag} {p : Addr} {x y : Int} (hs : H p = some (.lst [.int x, .int y])) (h : Q (.int (min x y)) H) : rMin K [.ref p] H Q := by
  refine ⟨p, [x, y], rfl, SqL.of hs, by show 0 < 2; decide, fun m hm hle => ?_⟩
  have h1 := hle x (by simp)
  have h2 := hle y (by simp)
  have e : m = min x y := by
    rcases List.mem_cons.mp hm with e | e
    · omega
    · rcases List.mem_cons.mp e with e | e
      · omega
      · cases e
  rw [e]
  exact h
theorem at0 {v : V} {xs : List V} : atI (v :: xs) 0 = some v := atI_nat (xs := v :: xs) (j := 0) rfl
theorem cut_ints (zs : List Int) (lo hi : Option Int) : ∃ ws : List Int, cutV (zs.map V.int) lo hi = ws.map V.int ∧ (∀ x ∈ ws, x ∈ zs) ∧ ws.length ≤ zs.length := by
  refine ⟨(zs.drop (HT.sIx (zs.map V.int).length 0 lo)).take (HT.sIx (zs.map V.int).length (zs.map V.int).length hi - HT.sIx (zs.map V.int).length 0 lo), ?_, ?_, ?_⟩
  · unfold cutV
    rw [List.map_take, List.map_drop]
  · intro x hx
    exact List.mem_of_mem_drop (List.mem_of_mem_take hx)
  · rw [List.length_take, List.length_drop]
    omega
/-- a slice of a row of numbers in a slot -/
theorem d_cut {σ : St} {H : Hp} {Q : VK} {K : PySem.W.Frag} {k : Nat} {o : Addr} {zs : List Int} {tl th : TO} (lo hi : Option Int) (e : σ[k]? = some (some (.ref o))) (g : H o = some (.lst (zs.map V.int))) (hl : ∀ R : Option Int → Hp → Prop, R lo H → tl σ H R) (hh : ∀ R : Option Int → Hp → Prop, R hi H → th σ H R)
    (h : ∀ (q : Addr) (ws : List Int), H q = none → (∀ x ∈ ws, x ∈ zs) → ws.length ≤ zs.length → Q (.ref q) (upd H q (.lst (ws.map V.int)))) : tSl (rSlL K) (tVar k) tl th σ H Q := by
  refine r_sl ⟨_, e, hl _ (hh _ ?_)⟩
  obtain ⟨ws, e1, e2, e3⟩ := cut_ints zs lo hi
  refine r_slL (SqL.of g) fun q nq => ?_
  rw [e1]
  exact h q ws nq e2 e3
theorem cat_ints (a b : List Int) : a.map V.int ++ b.map V.int = (a ++ b).map V.int := by simp
theorem LS.but {K : PySem.W.Frag} {S : SC} {H1 H H' : Hp} (L1 : LS K S H1) {m l : Addr} (hm : H1 m = none) (hl : H1 l = none) (L : LS K S H) (b : But m l H H') : LS K S H' := by
  obtain ⟨⟨k, l', f, e⟩, h2, h3, h4, h5⟩ := L1
  obtain ⟨⟨k', l'', f', e'⟩, h2', _, _, h5'⟩ := L
  have n1 : ∀ {b : Addr} {u : HO}, H1 b = some u → b ≠ m := fun h z => by
    rw [z, hm] at h
    cases h
  have n2 : ∀ {b : Addr} {u : HO}, H1 b = some u → b ≠ l := fun h z => by
    rw [z, hl] at h
    cases h
  refine ⟨⟨k', l'', f', b _ _ (n1 e) (n2 e) e'⟩, b _ _ (n1 h2) (n2 h2) h2', h3, h4, ?_⟩
  have go : S.sl ≠ m → S.sl ≠ l → SqL K H' S.sl (S.ns.map V.int) := fun q1 q2 => by
    rcases h5' with (h | ⟨u, h⟩) | h
    · exact .inl (.inl (b _ _ q1 q2 h))
    · exact .inl (.inr ⟨u, b _ _ q1 q2 h⟩)
    · exact .inr h
  rcases h5 with (h | ⟨u, h⟩) | h
  · exact go (n1 h) (n2 h)
  · exact go (n1 h) (n2 h)
  · exact .inr h
theorem But.refl (a l : Addr) (H : Hp) : But a l H H := fun _ _ _ _ z => z
theorem But.trans {a l : Addr} {H H1 H2 : Hp} (x : But a l H H1) (y : But a l H1 H2) : But a l H H2 := fun b u p q z => y b u p q (x b u p q z)
theorem But.same {a l : Addr} {H H1 : Hp} (x : Same H H1) : But a l H H1 := fun b u _ _ z => x b u z
theorem cut_to {zs : List Int} {d : Nat} (h : d ≤ zs.length) : cutV (zs.map V.int) none (some (d : Nat)) = (zs.take d).map V.int := by
  unfold cutV
  rw [HT.sIx_nat, HT.sIx_none, List.length_map, Nat.min_eq_left h, List.drop_zero, Nat.sub_zero, List.map_take]
theorem r_lcL {σ : St} {H : Hp} {Q : VK} {K : PySem.W.Frag} {tl : TE} {g : TG} {tt : TT} {te : TE} {vs : List Nat} (h : tl σ H fun x H1 => ∃ a, x = .ref a ∧ (∃ xs, SqL K H1 a xs) ∧ ∀ D, H1 D = none → ∃ W : Nat → Nat → Hp → Prop, (∃ m, W 0 m (upd H1 D (.lst []))) ∧ ∀ i m H, W i m H →
  ((Itl K a).stop i H ∧ Q (.ref D) H) ∨ ((Itl K a).go i H ∧ ∃ Nx : Hp → Prop, (∀ H', Nx H' → ∃ m', m' < m ∧ W (i + 1) m' H') ∧ ∀ x H', (Itl K a).yld i H x H' → g x (wipe σ vs) H' fun σ2 H2 => wipe σ2 vs = wipe σ vs ∧ tt σ2 H2 fun b H3 =>
    if b = true then te σ2 H3 fun y H4 => ∃ acc, H4 D = some (.lst acc) ∧ acc.length < sizeLine ∧ Nx (upd H4 D (.lst (acc ++ [y]))) else Nx H3)) : tLc (iList K tl) g tt te vs σ H Q := h
/-- a for over range(j), what stands behind a break known -/
theorem r_turnsB {σ : St} {H : Hp} {n : St → Hp → Prop} {r : VK} {j : Int} {g : TG} {tb : TS} (h1 : -(2 ^ 62) ≤ j) (h2 : j < 2 ^ 62) (M : St → Hp → Prop) (hM : ∀ σ H, M σ H → n σ H) (Pv : Nat → St → Hp → Prop) (h0 : Pv 0 σ H)
    (hs : (∀ σ H, M σ H → n σ H) → ∀ (i : Nat) σ H, (i : Int) < j → Pv i σ H → g (.int (i : Int)) σ H fun σ2 H2 => tb ⟨Pv (i + 1), r, n, Pv (i + 1)⟩ σ2 H2) (hd : ∀ σ H, Pv j.toNat σ H → M σ H) :
    -(2 ^ 62) ≤ j ∧ j < 2 ^ 62 ∧ ∃ W : Nat → Nat → St → Hp → Prop, (∃ m, W 0 m σ H) ∧ ∀ i m σ H, W i m σ H →
    ((Itr 0 j.toNat).stop i H ∧ n σ H) ∨ ((Itr 0 j.toNat).go i H ∧ ∃ N : St → Hp → Prop, (∀ σ' H', N σ' H' → ∃ m', m' < m ∧ W (i + 1) m' σ' H') ∧ ∀ x H', (Itr 0 j.toNat).yld i H x H' → g x σ H' fun σ2 H2 => tb ⟨N, r, n, N⟩ σ2 H2) :=
  r_turns h1 h2 Pv h0 (hs hM) fun σ H p => hM σ H (hd σ H p)
theorem at_end (a : List Int) (v : Int) : atI ((a ++ [v]).map V.int) ((((a ++ [v]).length : Nat) : Int) - 1) = some (.int v) := by
  rw [show (((a ++ [v]).length : Nat) : Int) - 1 = ((a.length : Nat) : Int) by rw [List.length_append]; show ((a.length + 1 : Nat) : Int) - 1 = _; omega]
  refine atI_nat ?_
  rw [List.getElem?_map, List.getElem?_append_right (Nat.le_refl _), Nat.sub_self]
  rfl
theorem r_lc0 {σ : St} {H : Hp} {Q : VK} {ta : TA} {g : TG} {tt : TT} {te : TE} {vs : List Nat} (h : ta σ H fun ws H1 => ∃ j : Int, ws = [.int j] ∧ -(2 ^ 62) ≤ j ∧ j < 2 ^ 62 ∧ ∀ D, H1 D = none → ∃ W : Nat → Nat → Hp → Prop, (∃ m, W 0 m (upd H1 D (.lst []))) ∧ ∀ i m H, W i m H →
  ((Itr 0 j.toNat).stop i H ∧ Q (.ref D) H) ∨ ((Itr 0 j.toNat).go i H ∧ ∃ Nx : Hp → Prop, (∀ H', Nx H' → ∃ m', m' < m ∧ W (i + 1) m' H') ∧ ∀ x H', (Itr 0 j.toNat).yld i H x H' → g x (wipe σ vs) H' fun σ2 H2 => wipe σ2 vs = wipe σ vs ∧ tt σ2 H2 fun b H3 =>
    if b = true then te σ2 H3 fun y H4 => ∃ acc, H4 D = some (.lst acc) ∧ acc.length < sizeLine ∧ Nx (upd H4 D (.lst (acc ++ [y]))) else Nx H3)) : tLc (iRng1 ta) g tt te vs σ H Q := h

/-! ### more rules of general use -/
theorem r_lcT {σ : St} {H : Hp} {Q : VK} {K : PySem.W.Frag} {tl : TE} {g : TG} {tt : TT} {te : TE} {vs : List Nat} (h : tl σ H fun x H1 => ∃ a, x = .ref a ∧ (∃ xs, SqT K H1 a xs) ∧ ∀ D, H1 D = none → ∃ W : Nat → Nat → Hp → Prop, (∃ m, W 0 m (upd H1 D (.lst []))) ∧ ∀ i m H, W i m H →
  ((Itt K a).stop i H ∧ Q (.ref D) H) ∨ ((Itt K a).go i H ∧ ∃ Nx : Hp → Prop, (∀ H', Nx H' → ∃ m', m' < m ∧ W (i + 1) m' H') ∧ ∀ x H', (Itt K a).yld i H x H' → g x (wipe σ vs) H' fun σ2 H2 => wipe σ2 vs = wipe σ vs ∧ tt σ2 H2 fun b H3 =>
    if b = true then te σ2 H3 fun y H4 => ∃ acc, H4 D = some (.lst acc) ∧ acc.length < sizeLine ∧ Nx (upd H4 D (.lst (acc ++ [y]))) else Nx H3)) : tLc (iTup K tl) g tt te vs σ H Q := h
theorem r_gunl {σ : St} {H : Hp} {K : PySem.W.Frag} {p : Addr} {xs : List V} {n : Nat} {t : TGs} {R : St → Hp → Prop} (hs : SqL K H p xs) (hl : xs.length = n) (h : t xs σ H R) : gUnl K n t (.ref p) σ H R := ⟨p, xs, rfl, hs, hl, h⟩
theorem cut_from {zs : List Int} {d : Nat} : cutV (zs.map V.int) (some (d : Nat)) none = (zs.drop d).map V.int := by
  unfold cutV
  rw [HT.sIx_nat, HT.sIx_none, List.length_map]
  by_cases h : d ≤ zs.length
  · rw [Nat.min_eq_left h, List.take_of_length_le (by rw [List.length_drop, List.length_map]; omega), List.map_drop]
  · rw [Nat.min_eq_right (by omega), List.drop_of_length_le (by rw [List.length_map]; omega), List.drop_of_length_le (by omega)]
    simp
theorem cut_mid {zs : List Int} {d e : Nat} (h : d ≤ e) : cutV (zs.map V.int) (some (d : Nat)) (some (e : Nat)) = ((zs.drop d).take (e - d)).map V.int := by
  unfold cutV
  rw [HT.sIx_nat, HT.sIx_nat, List.length_map]
  by_cases h1 : e ≤ zs.length
  · rw [Nat.min_eq_left h1, Nat.min_eq_left (by omega), List.map_take, List.map_drop]
  · by_cases h2 : d ≤ zs.length
    · rw [Nat.min_eq_right (by omega), Nat.min_eq_left h2, List.map_take, List.map_drop, List.take_of_length_le (by rw [List.length_drop, List.length_map]; omega), List.take_of_length_le (by rw [List.length_drop, List.length_map]; omega)]
    · rw [Nat.min_eq_right (by omega), Nat.min_eq_right (by omega), Nat.sub_self, List.take_zero, List.drop_of_length_le (l := zs) (by omega)]
      simp
theorem cut_to' {zs : List Int} {d : Nat} : cutV (zs.map V.int) none (some (d : Nat)) = (zs.take d).map V.int := by
  unfold cutV
  rw [HT.sIx_nat, HT.sIx_none, List.length_map, List.drop_zero, Nat.sub_zero, List.map_take]
  by_cases h : d ≤ zs.length
  · rw [Nat.min_eq_left h]
  · rw [Nat.min_eq_right (by omega), List.take_of_length_le (by rw [List.length_map]; omega), List.take_of_length_le (by rw [List.length_map]; omega)]
/-- list + list, both of integers -/
theorem r_catI {a b : Addr} {xs ys : List Int} {H : Hp} {Q : VK} (h1 : H a = some (.lst (xs.map V.int))) (h2 : H b = some (.lst (ys.map V.int))) (hl : xs.length + ys.length ≤ 1000) (h : ∀ p H', H p = none → H' p = some (.lst ((xs ++ ys).map V.int)) → Same H H' → Q (.ref p) H') : rCat (.ref a) (.ref b) H Q :=
  ⟨a, b, _, _, rfl, rfl, h1, h2, Nat.le_of_lt (small1000 (by rw [List.length_map, List.length_map]; exact hl)), fun p hp => h p _ hp (by rw [upd_same, cat_ints]) (same_upd hp _)⟩
theorem r_slI {K : PySem.W.Frag} {p : Addr} {xs ys : List Int} {lo hi : Option Int} {H : Hp} {Q : VK} (hs : H p = some (.lst (xs.map V.int))) (e : cutV (xs.map V.int) lo hi = ys.map V.int) (h : ∀ q H', H q = none → H' q = some (.lst (ys.map V.int)) → Same H H' → Q (.ref q) H') : rSlL K (.ref p) lo hi H Q :=
  r_slL (SqL.of hs) fun q hq => h q _ hq (by rw [upd_same, e]) (same_upd hq _)
/-- a new list or tuple -/
theorem r_nw {o : HO} {R : Addr → Hp → Prop} {c : Prop} {H : Hp} (hc : c) (h : ∀ (p : Addr) (H' : Hp), H p = none → H' p = some o → Same H H' → R p H') : c ∧ ∀ p, H p = none → R p (upd H p o) :=
  ⟨hc, fun p hp => h p _ hp upd_same (same_upd hp o)⟩
theorem r_nwI {zs : List Int} {R : Addr → Hp → Prop} {c : Prop} {H : Hp} (hc : c) (h : ∀ (p : Addr) (H' : Hp), H p = none → H' p = some (.lst (zs.map V.int)) → Same H H' → R p H') : c ∧ ∀ p, H p = none → R p (upd H p (.lst (zs.map V.int))) :=
  r_nw hc h
theorem same_tup {K : PySem.W.Frag} {H H' : Hp} {a : Addr} {xs : List V} (e : Same H H') (h : SqT K H a xs) : SqT K H' a xs := by
  rcases h with (h | ⟨o, h⟩) | h
  · exact .inl (.inl (e _ _ h))
  · exact .inl (.inr ⟨o, e _ _ h⟩)
  · exact .inr h
theorem same_seq {K : PySem.W.Frag} {H H' : Hp} {a : Addr} {xs : List V} (e : Same H H') (h : SqL K H a xs ∨ SqT K H a xs) : SqL K H' a xs ∨ SqT K H' a xs := h.elim (fun q => .inl (e.seq q)) fun q => .inr (same_tup e q)
theorem same_away {H1 H' : Hp} {D : Addr} {o : HO} (s : Same H1 H') (n : H1 D = none) : Same H1 (upd H' D o) := fun b u h => by
  rw [upd_ne (ne_of_none h n)]
  exact s b u h
theorem rep1 (n : Nat) (z : Int) : (List.replicate n [V.int z]).flatten = (List.replicate n z).map V.int := by
  induction n with
  | zero => rfl
  | succ n ih => rw [List.replicate_succ, List.replicate_succ, List.flatten_cons, ih]; rfl
/-- [z] * k -/
theorem r_repI {a : Addr} {z k : Int} {H : Hp} {Q : VK} (h1 : H a = some (.lst [.int z])) (h0 : -1000 ≤ k) (hk : k ≤ 1000) (h : ∀ p H', H p = none → H' p = some (.lst ((List.replicate k.toNat z).map V.int)) → Same H H' → Q (.ref p) H') : rRep (.ref a) (.int k) H Q :=
  ⟨a, k, [.int z], rfl, rfl, h1, by omega, by omega, Nat.le_of_lt (small1000 (by show 1 * _ ≤ 1000; omega)), fun p hp => h p _ hp (by rw [upd_same, rep1]) (same_upd hp _)⟩
def sp0 (f : Hp → VK → XK → Prop) : Sp := fun vs H Q E => vs = [] ∧ f H Q E
theorem len0 {f} (vs : List V) (H : Hp) (Q : VK) (E : XK) (h : sp0 f vs H Q E) : vs.length = 0 := by
  obtain ⟨rfl, _⟩ := h
  rfl
theorem ffl {i : Int} (h1 : -(2 ^ 62) ≤ i) (h2 : i < 2 ^ 62) : Builtin.Range.rangeFitsLong i = true := by
  unfold Builtin.Range.rangeFitsLong
  rw [decide_eq_true (by omega), decide_eq_true (by omega)]
  rfl
theorem rgP (n c k : Nat) (hn : n < 2 ^ 60) (h0 : 0 < c) (hc : c < 1000) (hk : k = (n + (c - 1)) / c) : RgC 0 (n : Nat) (c : Nat) k := by
  have hkn : k ≤ n + (c - 1) := by
    rw [hk]
    exact Nat.div_le_self _ _
  have e : Builtin.Range.rangeSize 0 (n : Nat) (c : Nat) = ((k : Nat) : Int) := by
    unfold Builtin.Range.rangeSize
    rw [if_pos (by omega)]
    by_cases z : n = 0
    · subst z
      rw [if_neg (by omega)]
      have : k = 0 := by rw [hk, Nat.zero_add]; exact Nat.div_eq_of_lt (by omega)
      omega
    · rw [if_pos (by omega)]
      have e1 : ((n : Nat) : Int) - 0 - 1 = ((n - 1 : Nat) : Int) := by omega
      rw [e1]
      have e2 : (n + (c - 1)) / c = (n - 1) / c + 1 := by
        rw [show n + (c - 1) = n - 1 + c by omega, Nat.add_div_right _ h0]
      rw [hk, e2]
      simp
  have hs : Builtin.Range.small 0 (n : Nat) (c : Nat) = true := by
    unfold Builtin.Range.small
    rw [e, ffl (by decide) (by decide), ffl (by omega) (by omega), ffl (by omega) (by omega), ffl (by omega) (by omega), if_pos (by omega), ffl (by omega) (by omega)]
    simp
  exact ⟨by omega, by omega, hs, e⟩
/-- list.extend -/
theorem r_extI {a b : Addr} {xs ys : List Int} {H : Hp} {Q : VK} (h1 : H a = some (.lst (xs.map V.int))) (h2 : H b = some (.lst (ys.map V.int))) (hl : xs.length + ys.length ≤ 4000) (h : ∀ H', H' a = some (.lst ((xs ++ ys).map V.int)) → (∀ b o, b ≠ a → H b = some o → H' b = some o) → (∀ H1, Same H1 H → H1 a = none → Same H1 H') → Q .non H') : rExtend (.ref a) [.ref b] H Q :=
  ⟨a, b, _, _, rfl, rfl, h1, h2, Nat.le_trans (by rw [List.length_map, List.length_map]; exact hl) (by decide : 4000 ≤ sizeLine), h _ (by rw [upd_same, cat_ints]) (fun b o n e => by rw [upd_ne n]; exact e) fun H1 s n => same_away s n⟩
/-- a slice of a row, list or tuple -/
theorem r_slSeq {K : PySem.W.Frag} {p : Addr} {xs : List Int} {d e : Nat} {H : Hp} {Q : VK} (hde : d ≤ e) (hs : SqL K H p (xs.map V.int) ∨ SqT K H p (xs.map V.int)) (h : ∀ q H', SqL K H' q (((xs.drop d).take (e - d)).map V.int) ∨ SqT K H' q (((xs.drop d).take (e - d)).map V.int) → Same H H' → Q (.ref q) H') : rSlL K (.ref p) (some (d : Nat)) (some (e : Nat)) H Q ∨ rSlA K (.ref p) (some (d : Nat)) (some (e : Nat)) H Q := by
  rcases hs with hs | hs
  · refine .inl (r_slL hs fun q hq => h q _ (.inl (SqL.of ?_)) (same_upd hq _))
    rw [upd_same, cut_mid hde]
  · refine .inr ⟨p, _, rfl, hs, fun hw => ?_, fun _ q hq => ?_⟩
    · refine h p H (.inr ?_) (Same.refl H)
      obtain ⟨w1, w2⟩ := hw
      rw [HT.sIx_nat, List.length_map] at w1 w2
      by_cases c : d = 0
      · subst c
        rw [List.drop_zero, List.take_of_length_le (by omega)]
        exact hs
      · have e0 : xs.length = 0 := by omega
        have e1 : xs = [] := List.length_eq_zero_iff.mp e0
        subst e1
        simpa using hs
    · refine h q _ (.inr (SqT.of ?_)) (same_upd hq _)
      rw [upd_same, cut_mid hde]
theorem pe_c0 {X : Cx} {k j : Nat} {x : Str} {sp : Sp} {dvs : List V} {p pos : Pos} (c : Cal X.prog X.w X.K X.mg X.base k x sp dvs) (hr : Room j X.A) (hk : k ≤ j) (hg : Gl X x) (hdb : (x == ("__debug__" : Str)) = false := by decide) : PE X (.Call (.Name x p) [] [] pos) (tCall sp dvs C8.E0 tNil) := by
  obtain ⟨f, fd, ps, ds, F, hm, hk', b, d⟩ := c.ex
  exact pe_call0 F (hr.mono hk) hg hm hk' b d pass0 hdb

local macro_rules | `(tactic| walk_at "rd1") => `(tactic| first
  | (with_reducible refine r_sl ?_)
  | (with_reducible refine r_part ?_)
  | (with_reducible refine r_some ?_)
  | (with_reducible refine r_nopart ?_)
  | (with_reducible refine r_rng2 ?_)
  | (with_reducible refine r_rng3 ?_)
  | (with_reducible refine r_itL ?_)
  | (with_reducible refine r_itT ?_)
  | (with_reducible refine r_lcT ?_)
  | (with_reducible refine r_lcL ?_)
  | (with_reducible refine r_lc0 ?_))
local macro_rules | `(tactic| walk_at "ri1") => `(tactic| first
  | (with_reducible refine r_sl ?_)
  | (with_reducible refine r_part ?_)
  | (with_reducible refine r_some ?_)
  | (with_reducible refine r_nopart ?_)
  | (with_reducible refine r_rng2 ?_)
  | (with_reducible refine r_rng3 ?_)
  | (with_reducible refine r_itL ?_)
  | (with_reducible refine r_itT ?_)
  | (with_reducible refine r_lcT ?_)
  | (with_reducible refine r_lcL ?_)
  | (with_reducible refine r_lc0 ?_))

/-! ### the program's Base64 -/
structure B64 where
  oc : List Int
  dg : Int
  pd : Int
  rs : Int
def b640 : B64 := ⟨[], 0, 0, 0⟩
def B64At (K : Frg) (H : Hp) (a l : Addr) (s : B64) : Prop := ∃ dx, H a = some (.ins (C_Base64 K) dx (fs_Base64 (.ref l) (.int s.dg) (.int s.pd) (.int s.rs))) ∧ H l = some (.lst (s.oc.map V.int))
structure B64R where
  f : Int
  l : Int
  w : Int
def rows64 : List B64R := [⟨65, 90, 0⟩, ⟨97, 122, 26⟩, ⟨48, 57, 52⟩, ⟨43, 43, 62⟩, ⟨47, 47, 63⟩]
def B64R.dat (r : B64R) : PyData := .tuple [.int r.f, .int r.l, .int r.w]
def B64R.is (r : B64R) (b : Int) : Bool := decide (r.f ≤ b ∧ b ≤ r.l)
def worth64 (b : Int) : Option Int := (rows64.find? (·.is b)).map fun r => r.w + b - r.f
def pad64 (s : B64) : Bool × B64 := if s.dg % 4 < 2 ∨ s.dg % 4 + s.pd > 3 ∨ s.rs ≠ 0 then (false, s) else (true, { s with pd := s.pd + 1 })
def dig64 (s : B64) (w : Int) : B64 :=
  if s.dg % 4 = 0 then ⟨s.oc, s.dg + 1, s.pd, s.rs * 64 + w⟩ else ⟨s.oc ++ [(s.rs * 64 + w) / 2 ^ (6 - 2 * (s.dg % 4)).toNat], s.dg + 1, s.pd, (s.rs * 64 + w) % 2 ^ (6 - 2 * (s.dg % 4)).toNat⟩
def take64 (s : B64) (b : Int) : Bool × B64 :=
  if b = 61 then pad64 s else match worth64 b with
    | none => (false, s)
    | some w => if s.pd > 0 then (false, s) else (true, dig64 s w)
def sp__worth_of (K : Frg) : Sp := sp1 fun o H Q _ => ∃ b, o = .int b ∧ (∀ w, worth64 b = some w → Q (.int w) H) ∧ (worth64 b = none → Q .non H)
def sp_Base64___init__ (K : Frg) : Sp := sp1 fun p H Q _ => ∃ a dx, p = .ref a ∧ H a = some (.ins (C_Base64 K) dx []) ∧ ∀ l H', H l = none → l ≠ a → B64At K H' a l b640 → (∀ b u, b ≠ a → H b = some u → H' b = some u) → Q .non H'
def sp_Base64_is_whole (K : Frg) : Sp := sp1 fun p H Q _ => ∃ a l s, p = .ref a ∧ B64At K H a l s ∧ Q (.bl (decide ((s.dg + s.pd) % 4 = 0))) H
def sp_Base64__take_pad (K : Frg) : Sp := sp1 fun p H Q _ => ∃ a l s, p = .ref a ∧ B64At K H a l s ∧ ∀ H', B64At K H' a l (pad64 s).2 → But a l H H' → Q (.bl (pad64 s).1) H'
def sp_Base64__take_digit (K : Frg) : Sp := sp2 fun p o H Q _ => ∃ a l s w, p = .ref a ∧ o = .int w ∧ B64At K H a l s ∧ s.oc.length < sizeLine ∧ 0 ≤ s.dg ∧ ∀ H', B64At K H' a l (dig64 s w) → But a l H H' → Q .non H'
def sp_Base64_take (K : Frg) : Sp := sp2 fun p o H Q _ => ∃ a l s b, p = .ref a ∧ o = .int b ∧ B64At K H a l s ∧ s.oc.length < sizeLine ∧ 0 ≤ s.dg ∧ ∀ H', B64At K H' a l (take64 s b).2 → But a l H H' → Q (.bl (take64 s b).1) H'
abbrev s__worth_of : Stmt := (top 4)
theorem sc__worth_of : FnScope ["octet", "first", "last", "least"] ["octet"] (defScope s__worth_of) := ⟨rfl, rfl, rfl, by decide +kernel, rfl, by decide +kernel, by decide +kernel⟩
abbrev s_Base64___init__ : Stmt := (inClass (top 5) 0)
theorem sc_Base64___init__ : FnScope ["self"] ["self"] (defScope s_Base64___init__) := ⟨rfl, rfl, rfl, by decide +kernel, rfl, by decide +kernel, by decide +kernel⟩
abbrev s_Base64_is_whole : Stmt := (inClass (top 5) 1)
theorem sc_Base64_is_whole : FnScope ["self"] ["self"] (defScope s_Base64_is_whole) := ⟨rfl, rfl, rfl, by decide +kernel, rfl, by decide +kernel, by decide +kernel⟩
abbrev s_Base64__take_pad : Stmt := (inClass (top 5) 3)
theorem sc_Base64__take_pad : FnScope ["self", "behind"] ["self"] (defScope s_Base64__take_pad) := ⟨rfl, rfl, rfl, by decide +kernel, rfl, by decide +kernel, by decide +kernel⟩
abbrev s_Base64__take_digit : Stmt := (inClass (top 5) 4)
theorem sc_Base64__take_digit : FnScope ["self", "worth", "bits", "behind", "octet"] ["self", "worth"] (defScope s_Base64__take_digit) := ⟨rfl, rfl, rfl, by decide +kernel, rfl, by decide +kernel, by decide +kernel⟩
abbrev s_Base64_take : Stmt := (inClass (top 5) 2)
theorem sc_Base64_take : FnScope ["self", "octet", "worth"] ["self", "octet"] (defScope s_Base64_take) := ⟨rfl, rfl, rfl, by decide +kernel, rfl, by decide +kernel, by decide +kernel⟩
theorem b64_ne {K : Frg} {H : Hp} {a l : Addr} {s : B64} (h : B64At K H a l s) : l ≠ a := by
  obtain ⟨dx, h1, h2⟩ := h
  rintro rfl
  rw [h1] at h2
  cases h2
section
variable {P : Program} {w : World} {K : PySem.W.Frag} {mg : Str → Option Value} {base : Heap} {f : Addr} {fd : FuncData}
theorem ok_Base64_is_whole (F : FunD K "is_whole" "Base64.is_whole" (defArgs s_Base64_is_whole) (defBody s_Base64_is_whole) (defScope s_Base64_is_whole) [] [] (prAd "Base64" "is_whole" K) fd) (nb : Nm K mg) : Prp P w K mg base 1 (C_Base64 K) "is_whole" (sp_Base64_is_whole K) := by
  refine prpD F nb.cl_Base64 nb.pr_Base64_is_whole sc_Base64_is_whole (fun _ _ _ _ _ _ us hl => match us, hl with | [_], _ => rfl) len1 (fun cdv A outer s H vs Q E hr h => ⟨_, (pss_one (ps_ret (pe_cmpR op_eq (pe_op op_mod (pe_op op_add (pe_fld (pv 0) rfl) (pe_fld (pv 0) rfl)) pe_int) pe_int (nomark _)))), ?_⟩)
  obtain ⟨_, rfl, a, l, s, rfl, ⟨dx, hA, hL⟩, h⟩ := h
  walk_at "rd"
  refine r_fget hA nb.cl_Base64 nb.na_Base64__digits lk_Base64__digits ?_
  walk_at "rd"
  refine r_fget hA nb.cl_Base64 nb.na_Base64__pads lk_Base64__pads ?_
  walk_at "rd"
  exact h
theorem ok_Base64___init__ (F : FunD K "__init__" "Base64.__init__" (defArgs s_Base64___init__) (defBody s_Base64___init__) (defScope s_Base64___init__) [] [] (meAd "Base64" "__init__" K) fd) (nb : Nm K mg) : Mak P w K mg base 1 "Base64" (C_Base64 K) (sp_Base64___init__ K) [] := by
  refine makD F nb.mk_Base64 nb.g_Base64 sc_Base64___init__ (fun _ _ _ _ _ _ us hl => match us, hl with | [_], _ => rfl) len1 (fun cdv A outer s H vs Q E hr h => ⟨_, (pss_cons (ps_fld (pv 0) (pe_lst pa_nil) rfl)
    (pss_cons (ps_fld (pv 0) pe_int rfl)
    (pss_cons (ps_fld (pv 0) pe_int rfl)
    (pss_one (ps_fld (pv 0) pe_int rfl))))), ?_⟩)
  obtain ⟨_, rfl, a, dx, rfl, hA, h⟩ := h
  walk_at "rd"
  refine ⟨by show 0 ≤ sizeLine; decide, fun l hl => ?_⟩
  have hne : l ≠ a := fun z => by rw [z, hA] at hl; cases hl
  have hA0 : upd H l (.lst []) a = some (.ins (C_Base64 K) dx []) := (upd_ne (Ne.symm hne)).trans hA
  have hL0 : upd H l (.lst []) l = some (.lst []) := upd_same
  have f0 : ∀ b u, b ≠ a → H b = some u → upd H l (.lst []) b = some u := fun b u h1 h2 => same_upd hl _ b u h2
  generalize upd H l (.lst []) = H0 at hA0 hL0 f0 ⊢
  walk_at "rd"
  refine r_fsetK hA0 nb.cl_Base64 nb.na_Base64_octets (by decide) (in_Base64_octets) fun H1 hA1 f1 => ?_
  walk_at "rd"
  refine r_fsetK hA1 nb.cl_Base64 nb.na_Base64__digits (by simp) (in_Base64__digits) fun H2 hA2 f2 => ?_
  walk_at "rd"
  refine r_fsetK hA2 nb.cl_Base64 nb.na_Base64__pads (by simp) (in_Base64__pads) fun H3 hA3 f3 => ?_
  walk_at "rd"
  refine r_fsetK hA3 nb.cl_Base64 nb.na_Base64__rest (by simp) (in_Base64__rest) fun H4 hA4 f4 => ?_
  refine h l H4 hl hne ⟨dx, hA4, ?_⟩ fun p u p1 z => ?_
  · rw [f4 l hne, f3 l hne, f2 l hne, f1 l hne]
    exact hL0
  · rw [f4 p p1, f3 p p1, f2 p p1, f1 p p1]
    exact f0 p u p1 z
theorem ok_Base64__take_pad (F : FunD K "_take_pad" "Base64._take_pad" (defArgs s_Base64__take_pad) (defBody s_Base64__take_pad) (defScope s_Base64__take_pad) [] [] (meAd "Base64" "_take_pad" K) fd) (nb : Nm K mg) : Met P w K mg base 1 (C_Base64 K) "_take_pad" (sp_Base64__take_pad K) [] := by
  refine metD F nb.cl_Base64 nb.me_Base64__take_pad sc_Base64__take_pad (fun _ _ _ _ _ _ us hl => match us, hl with | [_], _ => rfl) len1 (fun cdv A outer s H vs Q E hr h => ⟨_, (pss_cons (ps_set (i := 1) sc_Base64__take_pad.nd rfl (Or.inl rfl) (pe_op op_mod (pe_fld (pv 0) rfl) pe_int))
    (pss_cons (ps_if (PW.pt (pw_or (pt_cmpR op_lt (pv 1) pe_int (nomark _)) (pw_or (pt_cmpR op_gt (pe_op op_add (pv 1) (pe_fld (pv 0) rfl)) pe_int (nomark _)) (pw_or1 (pt_cmpR op_ne (pe_fld (pv 0) rfl) pe_int (nomark _))))))
    (pss_one (ps_ret pe_bl))
    pss_nil)
    (pss_cons (ps_fld (pv 0) (pe_op op_add (pe_fld (pv 0) rfl) pe_int) rfl)
    (pss_one (ps_ret pe_bl))))), ?_⟩)
  obtain ⟨_, rfl, a, l, s, rfl, hB, h⟩ := h
  have hne := b64_ne hB
  obtain ⟨dx, hA, hL⟩ := id hB
  have no : (s.dg % 4 < 2 ∨ s.dg % 4 + s.pd > 3 ∨ s.rs ≠ 0) → Q (.bl false) H := fun c => by
    have e : pad64 s = (false, s) := if_pos c
    rw [e] at h
    exact h H hB fun _ _ _ _ z => z
  walk_at "rd"
  refine r_fget hA nb.cl_Base64 nb.na_Base64__digits lk_Base64__digits ?_
  walk_at "ri"
  refine r_ifB (decide (s.dg % 4 < 2 ∨ s.dg % 4 + s.pd > 3 ∨ s.rs ≠ 0)) ?_ ?_
  · intro R hR
    walk_at "rd"
    refine r_ite (fun c1 => ?_) (fun c1 => ?_)
    · rw [decide_eq_true (show s.dg % 4 < 2 ∨ s.dg % 4 + s.pd > 3 ∨ s.rs ≠ 0 from .inl c1)] at hR
      walk_at "rd"
      exact hR
    walk_at "rd"
    refine r_fget hA nb.cl_Base64 nb.na_Base64__pads lk_Base64__pads ?_
    walk_at "rd"
    refine r_ite (fun c2 => ?_) (fun c2 => ?_)
    · rw [decide_eq_true (show s.dg % 4 < 2 ∨ s.dg % 4 + s.pd > 3 ∨ s.rs ≠ 0 from .inr (.inl c2))] at hR
      walk_at "rd"
      exact hR
    walk_at "rd"
    refine r_fget hA nb.cl_Base64 nb.na_Base64__rest lk_Base64__rest ?_
    walk_at "rd"
    have e : (!decide (s.rs = 0)) = decide (s.dg % 4 < 2 ∨ s.dg % 4 + s.pd > 3 ∨ s.rs ≠ 0) := by
      by_cases c3 : s.rs = 0
      · rw [decide_eq_true c3, decide_eq_false (show ¬ (s.dg % 4 < 2 ∨ s.dg % 4 + s.pd > 3 ∨ s.rs ≠ 0) by omega)]
        rfl
      · rw [decide_eq_false c3, decide_eq_true (show s.dg % 4 < 2 ∨ s.dg % 4 + s.pd > 3 ∨ s.rs ≠ 0 from .inr (.inr c3))]
        rfl
    rw [e]
    exact hR
  refine r_ite (fun c => ?_) (fun c => ?_)
  · walk_at "rd"
    exact no c
  · have e : pad64 s = (true, { s with pd := s.pd + 1 }) := if_neg c
    rw [e] at h
    walk_at "rd"
    refine r_fget hA nb.cl_Base64 nb.na_Base64__pads lk_Base64__pads ?_
    walk_at "rd"
    refine r_fsetK hA nb.cl_Base64 nb.na_Base64__pads (few_Base64) pt_Base64__pads fun H1 hA1 f1 => ?_
    walk_at "rd"
    exact h H1 ⟨dx, hA1, by rw [f1 l hne]; exact hL⟩ fun p u p1 _ z => by rw [f1 p p1]; exact z
theorem ok__worth_of (F : FunD K "_worth_of" "_worth_of" (defArgs s__worth_of) (defBody s__worth_of) (defScope s__worth_of) [] [] (glAd "_worth_of" K) fd) (m : mg "_worth_of" = some (.ref (glAd "_worth_of" K))) (nb : Nm K mg) : Cal P w K mg base 1 "_worth_of" (sp__worth_of K) [] := by
  obtain ⟨v_ROWS, u_ROWS, e_ROWS, r_ROWS, k_ROWS⟩ := nb.g_ROWS
  refine calD F m sc__worth_of (fun _ _ _ _ _ _ us hl => match us, hl with | [_], _ => rfl) len1 (fun cdv A outer s H vs Q E hr h => ⟨_, (pss_cons (ps_for PassesOwn.never rfl (pi_tup (pe_gc rfl ⟨u_ROWS, e_ROWS, r_ROWS⟩)) (pg_tup rfl (pgs_cons (pg_name (i := 1) sc__worth_of.nd rfl (Or.inl rfl)) (pgs_cons (pg_name (i := 2) sc__worth_of.nd rfl (Or.inl rfl)) (pgs_cons (pg_name (i := 3) sc__worth_of.nd rfl (Or.inl rfl)) pgs_nil))))
    (pss_one (ps_if (pt_chain op_le op_le (pv 1) (pv 0) (pv 2))
    (pss_one (ps_ret (pe_op op_sub (pe_op op_add (pv 3) (pv 0)) (pv 1))))
    pss_nil)))
    (pss_one (ps_ret pe_non))), ?_⟩)
  obtain ⟨_, rfl, b, rfl, hw, hn⟩ := h
  obtain ⟨tf, xs, rfl, hT, hD⟩ := dp_tup (k_ROWS H)
  have hD : DpAll K H xs (rows64.map B64R.dat) := hD
  have eN : xs.length = rows64.length := by rw [dp_len hD, List.length_map]
  walk_at "rd"
  refine ⟨tf, rfl, ⟨xs, hT⟩, r_eachT (xs := xs) (fun i σ H' => H = H' ∧ (∀ j row, j < i → rows64[j]? = some row → row.is b = false) ∧ ∃ y1 y2 y3, σ = [some (.int b), y1, y2, y3])
    ⟨rfl, fun j row h => absurd h (Nat.not_lt_zero _), _, _, _, rfl⟩ ?_ ?_ ?_⟩
  · rintro i σ _ ⟨rfl, _⟩
    exact hT
  · rintro i x σ _ hx ⟨rfl, hj, y1, y2, y3, rfl⟩
    obtain ⟨d, hd, hxd⟩ := dp_get hD hx
    rw [List.getElem?_map] at hd
    obtain ⟨row, hrow, rfl⟩ := Option.map_eq_some_iff.mp hd
    obtain ⟨tr, zs, rfl, hr, hz⟩ := dp_tup (show Dp K H x (.tuple ([row.f, row.l, row.w].map PyData.int)) from hxd)
    have hz := dp_ints _ hz
    subst hz
    have hr : SqT K H tr [.int row.f, .int row.l, .int row.w] := hr
    refine r_gtup hr rfl ?_
    have nxt : row.is b = false → ∀ j row', j < i + 1 → rows64[j]? = some row' → row'.is b = false := fun hf j row' hji hr' => by
      by_cases e : j = i
      · subst e
        rw [hrow] at hr'
        cases hr'
        exact hf
      · exact hj j row' (by omega) hr'
    walk_at "rd"
    refine r_ite (fun c1 => ?_) (fun c1 => ?_)
    · walk_at "rd"
      refine r_ite (fun c2 => ?_) (fun c2 => ?_)
      · have hf : rows64.find? (·.is b) = some row := by
          obtain ⟨hi, ei⟩ := List.getElem?_eq_some_iff.mp hrow
          refine List.find?_eq_some_iff_getElem.mpr ⟨decide_eq_true ⟨c1, c2⟩, i, hi, ei, fun j hji => ?_⟩
          rw [hj j _ hji (List.getElem?_eq_getElem (Nat.lt_trans hji hi))]
          rfl
        walk_at "rd"
        exact hw _ (by unfold worth64; rw [hf]; rfl)
      · walk_at "rd"
        exact ⟨rfl, nxt (decide_eq_false fun z => c2 z.2), _, _, _, rfl⟩
    · walk_at "rd"
      exact ⟨rfl, nxt (decide_eq_false fun z => c1 z.1), _, _, _, rfl⟩
  · rintro σ _ ⟨rfl, hj, y1, y2, y3, rfl⟩
    have hf : rows64.find? (·.is b) = none := by
      refine List.find?_eq_none.mpr fun row hr => ?_
      obtain ⟨j, hjl, ej⟩ := List.getElem_of_mem hr
      rw [hj j row (by rw [eN]; exact hjl) (by rw [List.getElem?_eq_getElem hjl, ej])]
      decide
    walk_at "rd"
    exact hn (by unfold worth64; rw [hf]; rfl)
theorem ok_Base64_take (F : FunD K "take" "Base64.take" (defArgs s_Base64_take) (defBody s_Base64_take) (defScope s_Base64_take) [] [] (meAd "Base64" "take" K) fd) (nb : Nm K mg) (c__worth_of : Cal P w K mg base 1 "_worth_of" (sp__worth_of K) []) (m_Base64__take_pad : Met P w K mg base 1 (C_Base64 K) "_take_pad" (sp_Base64__take_pad K) []) (m_Base64__take_digit : Met P w K mg base 1 (C_Base64 K) "_take_digit" (sp_Base64__take_digit K) []) : Met P w K mg base 2 (C_Base64 K) "take" (sp_Base64_take K) [] := by
  refine metD F nb.cl_Base64 nb.me_Base64_take sc_Base64_take (fun _ _ _ _ _ _ us hl => match us, hl with | [_, _], _ => rfl) len2 (fun cdv A outer s H vs Q E hr h => ⟨_, (pss_cons (ps_if (pt_cmpR op_eq (pv 1) (pe_gc rfl nb.g_PAD) (nomark _))
    (pss_one (ps_ret (pe_mt0 m_Base64__take_pad hr (by decide) (pv 0))))
    pss_nil)
    (pss_cons (ps_set (i := 2) sc_Base64_take.nd rfl (Or.inl rfl) (pe_c c__worth_of hr (by decide) rfl (pa_cons (pv 1) pa_nil)))
    (pss_cons (ps_if (PW.pt (pw_or (pt_cmpR op_isN (pv 2) pe_non (nomark _)) (pw_or1 (pt_cmpR op_gt (pe_fld (pv 0) rfl) pe_int (nomark _)))))
    (pss_one (ps_ret pe_bl))
    pss_nil)
    (pss_cons (ps_expr (pe_mt m_Base64__take_digit hr (by decide) (pv 0) (pa_cons (pv 2) pa_nil)))
    (pss_one (ps_ret pe_bl)))))), ?_⟩)
  obtain ⟨_, _, rfl, a, l, s, b, rfl, rfl, hB, hl, h0, h⟩ := h
  have hne := b64_ne hB
  obtain ⟨dx, hA, hL⟩ := id hB
  walk_at "rd"
  refine r_ite (fun c => ?_) (fun c => ?_)
  · have e : take64 s b = pad64 s := if_pos c
    rw [e] at h
    walk_at "rd"
    refine r_mget hA no_Base64__take_pad ?_
    walk_at "rd"
    exact ⟨_, rfl, a, l, s, rfl, hB, h⟩
  have e : take64 s b = match worth64 b with
    | none => (false, s)
    | some w => if s.pd > 0 then (false, s) else (true, dig64 s w) := if_neg c
  walk_at "rd"
  refine ⟨_, rfl, b, rfl, fun w hw => ?_, fun hn => ?_⟩
  · rw [hw] at e
    have e : take64 s b = if s.pd > 0 then (false, s) else (true, dig64 s w) := e
    walk_at "rd"
    refine r_iteN (by intro q; cases q) ?_
    walk_at "rd"
    refine r_fget hA nb.cl_Base64 nb.na_Base64__pads lk_Base64__pads ?_
    walk_at "rd"
    refine r_ite (fun c2 => ?_) (fun c2 => ?_)
    · rw [if_pos c2] at e
      rw [e] at h
      walk_at "rd"
      exact h H hB fun _ _ _ _ z => z
    · rw [if_neg c2] at e
      rw [e] at h
      walk_at "rd"
      refine r_mget hA no_Base64__take_digit ?_
      walk_at "rd"
      refine ⟨_, _, rfl, a, l, s, w, rfl, rfl, hB, hl, h0, fun H' h1 h2 => ?_⟩
      walk_at "rd"
      exact h H' h1 h2
  · rw [hn] at e
    have e : take64 s b = (false, s) := e
    rw [e] at h
    walk_at "rd"
    refine r_itep rfl ?_
    walk_at "rd"
    exact h H hB fun _ _ _ _ z => z
theorem ok_Base64__take_digit (F : FunD K "_take_digit" "Base64._take_digit" (defArgs s_Base64__take_digit) (defBody s_Base64__take_digit) (defScope s_Base64__take_digit) [] [] (meAd "Base64" "_take_digit" K) fd) (nb : Nm K mg) : Met P w K mg base 1 (C_Base64 K) "_take_digit" (sp_Base64__take_digit K) [] := by
  refine metD F nb.cl_Base64 nb.me_Base64__take_digit sc_Base64__take_digit (fun _ _ _ _ _ _ us hl => match us, hl with | [_, _], _ => rfl) len2 (fun cdv A outer s H vs Q E hr h => ⟨_, (pss_cons (ps_set (i := 2) sc_Base64__take_digit.nd rfl (Or.inl rfl) (pe_op op_add (pe_op op_mul (pe_fld (pv 0) rfl) pe_int) (pv 1)))
    (pss_cons (ps_set (i := 3) sc_Base64__take_digit.nd rfl (Or.inl rfl) (pe_op op_mod (pe_fld (pv 0) rfl) pe_int))
    (pss_cons (ps_fld (pv 0) (pe_op op_add (pe_fld (pv 0) rfl) pe_int) rfl)
    (pss_cons (ps_if (pt_cmpR op_eq (pv 3) pe_int (nomark _))
    (pss_cons (ps_fld (pv 0) (pv 2) rfl)
    (pss_one ps_retN))
    pss_nil)
    (pss_cons (ps_asg (pe_callB call_divmodW (by rfl) nb.divmod (by decide +kernel) (pa_cons (pv 2) (pa_cons (pe_op op_shl pe_int (pe_op op_sub pe_int (pe_op op_mul pe_int (pv 3)))) pa_nil))) (pg_tup rfl (pgs_cons (pg_name (i := 4) sc_Base64__take_digit.nd rfl (Or.inl rfl)) (pgs_cons (pg_fld (pv 0)) pgs_nil))))
    (pss_one (ps_expr (pe_bm PySem.F.plainAttrs_list PySem.F.slot_list_append PySem.F.type_list_append mt_append (pe_fld (pv 0) rfl) (pa_cons (pv 4) pa_nil))))))))), ?_⟩)
  obtain ⟨_, _, rfl, a, l, s, w', rfl, rfl, hB, hl, h0, h⟩ := h
  have hne := b64_ne hB
  obtain ⟨dx, hA, hL⟩ := id hB
  walk_at "rd"
  refine r_fget hA nb.cl_Base64 nb.na_Base64__rest lk_Base64__rest ?_
  walk_at "rd"
  refine r_fget hA nb.cl_Base64 nb.na_Base64__digits lk_Base64__digits ?_
  walk_at "rd"
  refine r_fget hA nb.cl_Base64 nb.na_Base64__digits lk_Base64__digits ?_
  walk_at "rd"
  refine r_fsetK hA nb.cl_Base64 nb.na_Base64__digits (few_Base64) pt_Base64__digits fun H1 hA1 f1 => ?_
  walk_at "rd"
  refine r_ite (fun c => ?_) (fun c => ?_)
  · have e : dig64 s w' = ⟨s.oc, s.dg + 1, s.pd, s.rs * 64 + w'⟩ := if_pos c
    rw [e] at h
    walk_at "rd"
    refine r_fsetK hA1 nb.cl_Base64 nb.na_Base64__rest (few_Base64) pt_Base64__rest fun H2 hA2 f2 => ?_
    walk_at "rd"
    refine h H2 ⟨dx, hA2, by rw [f2 l hne, f1 l hne]; exact hL⟩ fun p u p1 _ z => by rw [f2 p p1, f1 p p1]; exact z
  · have e : dig64 s w' = ⟨s.oc ++ [(s.rs * 64 + w') / 2 ^ (6 - 2 * (s.dg % 4)).toNat], s.dg + 1, s.pd, (s.rs * 64 + w') % 2 ^ (6 - 2 * (s.dg % 4)).toNat⟩ := if_neg c
    rw [e] at h
    walk_at "rd"
    refine r_I (C := CPow) ⟨by omega, by omega, by decide⟩ ?_
    rw [Int.one_mul]
    have hk : (6 - 2 * (s.dg % 4)).toNat ≤ 6 := by omega
    generalize (6 - 2 * (s.dg % 4)).toNat = k at hk h ⊢
    have p1 : (0 : Int) < 2 ^ k := Int.pow_pos (by decide)
    have p2 : (2 : Int) ^ k ≤ 64 := by
      have : (2 : Int) ^ k ≤ 2 ^ 6 := by exact_mod_cast Nat.pow_le_pow_right (n := 2) (by decide) hk
      exact this
    walk_at "rd"
    refine ⟨_, _, rfl, ⟨p1, PyProof.noPylong_small (by omega)⟩, fun q nq => ?_⟩
    have hA2 := same_upd nq (.tup [.int ((s.rs * 64 + w') / 2 ^ k), .int ((s.rs * 64 + w') % 2 ^ k)]) _ _ hA1
    have hL2 := same_upd nq (.tup [.int ((s.rs * 64 + w') / 2 ^ k), .int ((s.rs * 64 + w') % 2 ^ k)]) l _ (by rw [f1 l hne]; exact hL)
    have b2 : But a l H (upd H1 q (.tup [.int ((s.rs * 64 + w') / 2 ^ k), .int ((s.rs * 64 + w') % 2 ^ k)])) := fun p u p1 p2 z => same_upd nq _ _ _ (by rw [f1 p p1]; exact z)
    refine r_gtup (SqT.of upd_same) rfl ?_
    generalize upd H1 q (.tup [.int ((s.rs * 64 + w') / 2 ^ k), .int ((s.rs * 64 + w') % 2 ^ k)]) = H2 at hA2 hL2 b2 ⊢
    walk_at "rd"
    refine r_gfldV rfl hA2 nb.cl_Base64 nb.na_Base64__rest (few_Base64) pt_Base64__rest fun H3 hA3 f3 => ?_
    walk_at "rd"
    refine r_fget hA3 nb.cl_Base64 nb.na_Base64_octets lk_Base64_octets ?_
    have hL3 : H3 l = some (.lst (s.oc.map V.int)) := by rw [f3 l hne]; exact hL2
    refine ⟨tyL hL3, ?_⟩
    walk_at "rd"
    refine r_appK hL3 (by simpa using hl) fun H4 hL4 f4 => ?_
    refine h H4 ⟨dx, ?_, ?_⟩ fun p u p1 p2 z => ?_
    · rw [f4 a (Ne.symm hne)]
      exact hA3
    · rw [hL4, map_snoc]
    · rw [f4 p p2, f3 p p1]
      exact b2 p u p1 p2 z
end

/-! ### the digits, and what they stand for -/
def digs64 : List Int := [65, 66, 67, 68, 69, 70, 71, 72, 73, 74, 75, 76, 77, 78, 79, 80, 81, 82, 83, 84, 85, 86, 87, 88, 89, 90, 97, 98, 99, 100, 101, 102, 103, 104, 105, 106, 107, 108, 109, 110, 111, 112, 113, 114, 115, 116, 117, 118, 119, 120, 121, 122, 48, 49, 50, 51, 52, 53, 54, 55, 56, 57, 43, 47]
def dg64 (w : Int) : Int := digs64.getD w.toNat 0
theorem dg64_all : ∀ k ∈ List.range 64, worth64 (dg64 (k : Int)) = some (k : Int) ∧ dg64 (k : Int) ≠ 61 ∧ 0 ≤ dg64 (k : Int) ∧ dg64 (k : Int) ≤ 255 := by decide +kernel
theorem dg64_ok {w : Int} (h0 : 0 ≤ w) (h1 : w < 64) : worth64 (dg64 w) = some w ∧ dg64 w ≠ 61 ∧ 0 ≤ dg64 w ∧ dg64 w ≤ 255 := by
  have h := dg64_all w.toNat (List.mem_range.mpr (by omega))
  have e : ((w.toNat : Nat) : Int) = w := by omega
  rw [e] at h
  exact h
def chk64 (b : Int) : Bool := match worth64 b with
    | some w => decide (0 ≤ w ∧ w < 64 ∧ (List.range 64).filter (fun j : Nat => decide (dg64 (j : Int) = b)) = [w.toNat] ∧ b ∈ digs64)
    | none => decide (¬ b ∈ digs64)
theorem worth64_all : ∀ k ∈ List.range 256, chk64 ((k : Nat) : Int) = true := by decide +kernel
theorem worth64_ok {b w : Int} (h0 : 0 ≤ b) (h1 : b ≤ 255) (h : worth64 b = some w) : 0 ≤ w ∧ w < 64 ∧ (List.range 64).filter (fun j : Nat => decide (dg64 (j : Int) = b)) = [w.toNat] ∧ b ∈ digs64 := by
  have q := worth64_all b.toNat (List.mem_range.mpr (by omega))
  have e : ((b.toNat : Nat) : Int) = b := by omega
  rw [e] at q
  unfold chk64 at q
  rw [h] at q
  exact of_decide_eq_true q
theorem worth64_no {b : Int} (h0 : 0 ≤ b) (h1 : b ≤ 255) (h : worth64 b = none) : ¬ b ∈ digs64 := by
  have q := worth64_all b.toNat (List.mem_range.mpr (by omega))
  have e : ((b.toNat : Nat) : Int) = b := by omega
  rw [e] at q
  unfold chk64 at q
  rw [h] at q
  exact of_decide_eq_true q
/-! ### bits -/
def bn : Nat → Int → List Int
  | 0, _ => []
  | n + 1, x => (x / 2 ^ n % 2) :: bn n x
theorem bn_len (x : Int) : ∀ n, (bn n x).length = n
  | 0 => rfl
  | n + 1 => congrArg (· + 1) (bn_len x n)
theorem bn_get (x : Int) : ∀ (n j : Nat), j < n → (bn n x)[j]? = some (x / 2 ^ (n - 1 - j) % 2)
  | 0, j, h => absurd h (by omega)
  | n + 1, 0, _ => rfl
  | n + 1, j + 1, h => by
    have q := bn_get x n j (by omega)
    have e : n + 1 - 1 - (j + 1) = n - 1 - j := by omega
    rw [e]
    exact q
def bitsW (ws : List Int) : List Int := ws.flatMap (bn 6)
theorem bitsW_snoc (ws : List Int) (w : Int) : bitsW (ws ++ [w]) = bitsW ws ++ bn 6 w := by simp [bitsW]
theorem bitsW_len : ∀ (ws : List Int), (bitsW ws).length = 6 * ws.length
  | [] => rfl
  | w :: ws => by
    show (bn 6 w ++ bitsW ws).length = 6 * (ws.length + 1)
    rw [List.length_append, bn_len, bitsW_len ws]
    omega
theorem oct_len : ∀ (os : List Int), (os.flatMap (bn 8)).length = 8 * os.length
  | [] => rfl
  | w :: ws => by
    show (bn 8 w ++ ws.flatMap (bn 8)).length = 8 * (ws.length + 1)
    rw [List.length_append, bn_len, oct_len ws]
    omega
theorem oct_get (R : List Int) : ∀ (os : List Int) (k j : Nat) (o : Int), os[k]? = some o → j < 8 → (os.flatMap (bn 8) ++ R)[8 * k + j]? = some (o / 2 ^ (7 - j) % 2)
  | [], k, j, o, h, _ => by simp at h
  | w :: ws, 0, j, o, h, hj => by
    have e : w = o := by simpa using h
    subst e
    show (bn 8 w ++ ws.flatMap (bn 8) ++ R)[8 * 0 + j]? = _
    rw [List.append_assoc, List.getElem?_append_left (by rw [bn_len]; omega), Nat.mul_zero, Nat.zero_add, bn_get w 8 j hj]
  | w :: ws, k + 1, j, o, h, hj => by
    show (bn 8 w ++ ws.flatMap (bn 8) ++ R)[8 * (k + 1) + j]? = _
    rw [List.append_assoc, List.getElem?_append_right (by rw [bn_len]; omega), bn_len, show 8 * (k + 1) + j - 8 = 8 * k + j by omega]
    exact oct_get R ws k j o (by simpa using h) hj
/-- the digits taken, and the machine -/
structure Rel64 (ws : List Int) (s : B64) : Prop where
  bits : bitsW ws = s.oc.flatMap (bn 8) ++ bn (6 * ws.length % 8) s.rs
  dg : s.dg = (ws.length : Nat)
  pd : 0 ≤ s.pd
  rs0 : 0 ≤ s.rs
  rs1 : s.rs < 2 ^ (6 * ws.length % 8)
  oc : ∀ o ∈ s.oc, 0 ≤ o ∧ o < 256
  ws : ∀ w ∈ ws, 0 ≤ w ∧ w < 64
theorem Rel64.init : Rel64 [] b640 := ⟨rfl, rfl, by decide, by decide, by decide, fun _ h => absurd h (by simp [b640]), fun _ h => absurd h (by simp)⟩
theorem Rel64.len {ws : List Int} {s : B64} (h : Rel64 ws s) : s.oc.length = 6 * ws.length / 8 := by
  have e := congrArg List.length h.bits
  rw [List.length_append, bitsW_len, oct_len, bn_len] at e
  omega
theorem mem_snoc {a : List Int} {x : Int} {p : Int → Prop} (h : ∀ y ∈ a, p y) (hx : p x) : ∀ y ∈ a ++ [x], p y := fun y hy => by
  rcases List.mem_append.mp hy with q | q
  · exact h y q
  · have e : y = x := by simpa using q
    rw [e]
    exact hx
theorem Rel64.digit {ws : List Int} {s : B64} (h : Rel64 ws s) {w : Int} (h0 : 0 ≤ w) (h1 : w < 64) : Rel64 (ws ++ [w]) (dig64 s w) := by
  obtain ⟨hb, hd, hp, r0, r1, ho, hw⟩ := h
  have hl : (ws ++ [w]).length = ws.length + 1 := by simp
  have hcases : ws.length % 4 = 0 ∨ ws.length % 4 = 1 ∨ ws.length % 4 = 2 ∨ ws.length % 4 = 3 := by omega
  rcases hcases with c | c | c | c
  · have e6 : 6 * ws.length % 8 = 0 := by omega
    have e7 : 6 * (ws ++ [w]).length % 8 = 6 := by omega
    rw [e6] at hb r1
    have r1 : s.rs < 1 := r1
    have ez : s.rs * 64 + w = w := by omega
    have e : dig64 s w = ⟨s.oc, s.dg + 1, s.pd, s.rs * 64 + w⟩ := if_pos (by omega)
    rw [e]
    refine ⟨?_, by show s.dg + 1 = _; omega, hp, by show 0 ≤ s.rs * 64 + w; omega, ?_, ho, mem_snoc hw ⟨h0, h1⟩⟩
    · show _ = s.oc.flatMap (bn 8) ++ bn _ (s.rs * 64 + w)
      rw [e7, ez, bitsW_snoc, hb]
      show s.oc.flatMap (bn 8) ++ [] ++ _ = _
      rw [List.append_nil]
    · show s.rs * 64 + w < 2 ^ (6 * (ws ++ [w]).length % 8)
      rw [e7, ez]
      exact h1
  · have e6 : 6 * ws.length % 8 = 6 := by omega
    have e7 : 6 * (ws ++ [w]).length % 8 = 4 := by omega
    rw [e6] at hb r1
    have r1 : s.rs < 64 := r1
    have e2 : (6 - 2 * (s.dg % 4)).toNat = 4 := by omega
    have e : dig64 s w = ⟨s.oc ++ [(s.rs * 64 + w) / 16], s.dg + 1, s.pd, (s.rs * 64 + w) % 16⟩ := by
      unfold dig64
      rw [if_neg (by omega), e2]
      rfl
    rw [e]
    refine ⟨?_, by show s.dg + 1 = _; omega, hp, by show 0 ≤ (s.rs * 64 + w) % 16; omega, ?_, mem_snoc ho ⟨by omega, by omega⟩, mem_snoc hw ⟨h0, h1⟩⟩
    · show _ = (s.oc ++ [(s.rs * 64 + w) / 16]).flatMap (bn 8) ++ bn _ ((s.rs * 64 + w) % 16)
      rw [e7, bitsW_snoc, hb, List.flatMap_append, List.append_assoc, List.append_assoc]
      congr 1
      simp only [bn, List.flatMap_cons, List.flatMap_nil, List.append_nil, List.cons_append, List.nil_append, List.cons.injEq, and_true]
      refine ⟨?_, ?_, ?_, ?_, ?_, ?_, ?_, ?_, ?_, ?_, ?_, ?_⟩ <;> omega
    · show (s.rs * 64 + w) % 16 < 2 ^ (6 * (ws ++ [w]).length % 8)
      rw [e7]
      exact Int.emod_lt_of_pos _ (by decide)
  · have e6 : 6 * ws.length % 8 = 4 := by omega
    have e7 : 6 * (ws ++ [w]).length % 8 = 2 := by omega
    rw [e6] at hb r1
    have r1 : s.rs < 16 := r1
    have e2 : (6 - 2 * (s.dg % 4)).toNat = 2 := by omega
    have e : dig64 s w = ⟨s.oc ++ [(s.rs * 64 + w) / 4], s.dg + 1, s.pd, (s.rs * 64 + w) % 4⟩ := by
      unfold dig64
      rw [if_neg (by omega), e2]
      rfl
    rw [e]
    refine ⟨?_, by show s.dg + 1 = _; omega, hp, by show 0 ≤ (s.rs * 64 + w) % 4; omega, ?_, mem_snoc ho ⟨by omega, by omega⟩, mem_snoc hw ⟨h0, h1⟩⟩
    · show _ = (s.oc ++ [(s.rs * 64 + w) / 4]).flatMap (bn 8) ++ bn _ ((s.rs * 64 + w) % 4)
      rw [e7, bitsW_snoc, hb, List.flatMap_append, List.append_assoc, List.append_assoc]
      congr 1
      simp only [bn, List.flatMap_cons, List.flatMap_nil, List.append_nil, List.cons_append, List.nil_append, List.cons.injEq, and_true]
      refine ⟨?_, ?_, ?_, ?_, ?_, ?_, ?_, ?_, ?_, ?_⟩ <;> omega
    · show (s.rs * 64 + w) % 4 < 2 ^ (6 * (ws ++ [w]).length % 8)
      rw [e7]
      exact Int.emod_lt_of_pos _ (by decide)
  · have e6 : 6 * ws.length % 8 = 2 := by omega
    have e7 : 6 * (ws ++ [w]).length % 8 = 0 := by omega
    rw [e6] at hb r1
    have r1 : s.rs < 4 := r1
    have e2 : (6 - 2 * (s.dg % 4)).toNat = 0 := by omega
    have e : dig64 s w = ⟨s.oc ++ [(s.rs * 64 + w) / 1], s.dg + 1, s.pd, (s.rs * 64 + w) % 1⟩ := by
      unfold dig64
      rw [if_neg (by omega), e2]
      rfl
    rw [e]
    refine ⟨?_, by show s.dg + 1 = _; omega, hp, by show 0 ≤ (s.rs * 64 + w) % 1; omega, ?_, mem_snoc ho ⟨by omega, by omega⟩, mem_snoc hw ⟨h0, h1⟩⟩
    · show _ = (s.oc ++ [(s.rs * 64 + w) / 1]).flatMap (bn 8) ++ bn _ ((s.rs * 64 + w) % 1)
      rw [e7, bitsW_snoc, hb, List.flatMap_append, List.append_assoc, List.append_assoc]
      congr 1
      simp only [bn, List.flatMap_cons, List.flatMap_nil, List.append_nil, List.cons_append, List.nil_append, List.cons.injEq, and_true]
      refine ⟨?_, ?_, ?_, ?_, ?_, ?_, ?_, ?_⟩ <;> omega
    · show (s.rs * 64 + w) % 1 < 2 ^ (6 * (ws ++ [w]).length % 8)
      rw [e7]
      exact Int.emod_lt_of_pos _ (by decide)
theorem Rel64.pad {ws : List Int} {s : B64} (h : Rel64 ws s) : Rel64 ws (pad64 s).2 := by
  unfold pad64
  split
  · exact h
  · exact ⟨h.bits, h.dg, by have := h.pd; show 0 ≤ s.pd + 1; omega, h.rs0, h.rs1, h.oc, h.ws⟩
theorem bn_sum_all : ∀ n ∈ List.range 7, ∀ k ∈ List.range (2 ^ n), ((bn n (k : Int)).sum = 0 ↔ k = 0) := by decide +kernel
theorem bn_sum0 (n : Nat) (x : Int) (hn : n ≤ 6) (h0 : 0 ≤ x) (h1 : x < 2 ^ n) : (bn n x).sum = 0 ↔ x = 0 := by
  have e : ((x.toNat : Nat) : Int) = x := by omega
  have hx : x.toNat < 2 ^ n := by
    have : ((x.toNat : Nat) : Int) < ((2 ^ n : Nat) : Int) := by
      rw [e, Int.natCast_pow]
      exact h1
    exact Int.ofNat_lt.mp this
  have q := bn_sum_all n (List.mem_range.mpr (by omega)) x.toNat (List.mem_range.mpr hx)
  rw [e] at q
  rw [q]
  omega
/-! ### what is written -/
def enc64 : List Int → List Int
  | [] => []
  | [a] => [dg64 (a / 4), dg64 (a % 4 * 16), 61, 61]
  | [a, b] => [dg64 (a / 4), dg64 (a % 4 * 16 + b / 16), dg64 (b % 16 * 4), 61]
  | a :: b :: c :: r => dg64 (a / 4) :: dg64 (a % 4 * 16 + b / 16) :: dg64 (b % 16 * 4 + c / 64) :: dg64 (c % 64) :: enc64 r
def run64 (s : B64) (rows : List Int) : B64 := rows.foldl (fun s b => (take64 s b).2) s
theorem run64_cons (s : B64) (b : Int) (r : List Int) : run64 s (b :: r) = run64 (take64 s b).2 r := rfl
theorem run64_nil (s : B64) : run64 s [] = s := rfl
theorem take_dig {s : B64} {w : Int} (h0 : 0 ≤ w) (h1 : w < 64) (hp : s.pd = 0) : (take64 s (dg64 w)).2 = dig64 s w := by
  obtain ⟨e1, e2, _⟩ := dg64_ok h0 h1
  unfold take64
  rw [if_neg e2, e1]
  show (if s.pd > 0 then (false, s) else (true, dig64 s w)).2 = _
  rw [if_neg (by omega)]
theorem take_pad (s : B64) : (take64 s 61).2 = (pad64 s).2 := by
  unfold take64
  rw [if_pos rfl]
theorem run_enc : ∀ (xs : List Int) (s : B64), (∀ x ∈ xs, 0 ≤ x ∧ x < 256) → s.dg % 4 = 0 → s.pd = 0 → s.rs = 0 → (run64 s (enc64 xs)).oc = s.oc ++ xs ∧ ((run64 s (enc64 xs)).dg + (run64 s (enc64 xs)).pd) % 4 = 0
  | [], s, _, h1, h2, h3 => by
    show s.oc = s.oc ++ [] ∧ (s.dg + s.pd) % 4 = 0
    rw [List.append_nil]
    exact ⟨rfl, by omega⟩
  | [a], s, hx, h1, h2, h3 => by
    obtain ⟨a0, a1⟩ := hx a (by simp)
    obtain ⟨oc, dg, pd, rs⟩ := s
    have h1 : dg % 4 = 0 := h1
    have h2 : pd = 0 := h2
    have h3 : rs = 0 := h3
    subst h2 h3
    simp only [enc64, run64_cons, run64_nil]
    have s1 : (take64 ⟨oc, dg, 0, 0⟩ (dg64 (a / 4))).2 = ⟨oc, dg + 1, 0, a / 4⟩ := by
      rw [take_dig (by omega) (by omega) rfl]
      unfold dig64
      rw [if_pos h1]
      simp
    have s2 : (take64 ⟨oc, dg + 1, 0, a / 4⟩ (dg64 (a % 4 * 16))).2 = ⟨oc ++ [a], dg + 2, 0, 0⟩ := by
      rw [take_dig (by omega) (by omega) rfl]
      unfold dig64
      rw [if_neg (by show ¬ (dg + 1) % 4 = 0; omega), show (6 - 2 * ((⟨oc, dg + 1, 0, a / 4⟩ : B64).dg % 4)).toNat = 4 by show (6 - 2 * ((dg + 1) % 4)).toNat = 4; omega]
      show (⟨oc ++ [(a / 4 * 64 + a % 4 * 16) / 16], dg + 1 + 1, 0, (a / 4 * 64 + a % 4 * 16) % 16⟩ : B64) = _
      rw [show (a / 4 * 64 + a % 4 * 16) / 16 = a by omega, show (a / 4 * 64 + a % 4 * 16) % 16 = 0 by omega, show dg + 1 + 1 = dg + 2 by omega]
    have s3 : (take64 ⟨oc ++ [a], dg + 2, 0, 0⟩ 61).2 = ⟨oc ++ [a], dg + 2, 1, 0⟩ := by
      rw [take_pad]
      unfold pad64
      rw [if_neg (by show ¬ ((dg + 2) % 4 < 2 ∨ (dg + 2) % 4 + 0 > 3 ∨ (0 : Int) ≠ 0); omega)]
      rfl
    have s4 : (take64 ⟨oc ++ [a], dg + 2, 1, 0⟩ 61).2 = ⟨oc ++ [a], dg + 2, 2, 0⟩ := by
      rw [take_pad]
      unfold pad64
      rw [if_neg (by show ¬ ((dg + 2) % 4 < 2 ∨ (dg + 2) % 4 + 1 > 3 ∨ (0 : Int) ≠ 0); omega)]
      rfl
    rw [s1, s2, s3, s4]
    exact ⟨rfl, by show (dg + 2 + 2) % 4 = 0; omega⟩
  | [a, b], s, hx, h1, h2, h3 => by
    obtain ⟨a0, a1⟩ := hx a (by simp)
    obtain ⟨b0, b1⟩ := hx b (by simp)
    obtain ⟨oc, dg, pd, rs⟩ := s
    have h1 : dg % 4 = 0 := h1
    have h2 : pd = 0 := h2
    have h3 : rs = 0 := h3
    subst h2 h3
    simp only [enc64, run64_cons, run64_nil]
    have s1 : (take64 ⟨oc, dg, 0, 0⟩ (dg64 (a / 4))).2 = ⟨oc, dg + 1, 0, a / 4⟩ := by
      rw [take_dig (by omega) (by omega) rfl]
      unfold dig64
      rw [if_pos h1]
      simp
    have s2 : (take64 ⟨oc, dg + 1, 0, a / 4⟩ (dg64 (a % 4 * 16 + b / 16))).2 = ⟨oc ++ [a], dg + 2, 0, b / 16⟩ := by
      rw [take_dig (by omega) (by omega) rfl]
      unfold dig64
      rw [if_neg (by show ¬ (dg + 1) % 4 = 0; omega), show (6 - 2 * ((⟨oc, dg + 1, 0, a / 4⟩ : B64).dg % 4)).toNat = 4 by show (6 - 2 * ((dg + 1) % 4)).toNat = 4; omega]
      show (⟨oc ++ [(a / 4 * 64 + (a % 4 * 16 + b / 16)) / 16], dg + 1 + 1, 0, (a / 4 * 64 + (a % 4 * 16 + b / 16)) % 16⟩ : B64) = _
      rw [show (a / 4 * 64 + (a % 4 * 16 + b / 16)) / 16 = a by omega, show (a / 4 * 64 + (a % 4 * 16 + b / 16)) % 16 = b / 16 by omega, show dg + 1 + 1 = dg + 2 by omega]
    have s3 : (take64 ⟨oc ++ [a], dg + 2, 0, b / 16⟩ (dg64 (b % 16 * 4))).2 = ⟨oc ++ [a, b], dg + 3, 0, 0⟩ := by
      rw [take_dig (by omega) (by omega) rfl]
      unfold dig64
      rw [if_neg (by show ¬ (dg + 2) % 4 = 0; omega), show (6 - 2 * ((⟨oc ++ [a], dg + 2, 0, b / 16⟩ : B64).dg % 4)).toNat = 2 by show (6 - 2 * ((dg + 2) % 4)).toNat = 2; omega]
      show (⟨oc ++ [a] ++ [(b / 16 * 64 + b % 16 * 4) / 4], dg + 2 + 1, 0, (b / 16 * 64 + b % 16 * 4) % 4⟩ : B64) = _
      rw [show (b / 16 * 64 + b % 16 * 4) / 4 = b by omega, show (b / 16 * 64 + b % 16 * 4) % 4 = 0 by omega, show dg + 2 + 1 = dg + 3 by omega, List.append_assoc]
      rfl
    have s4 : (take64 ⟨oc ++ [a, b], dg + 3, 0, 0⟩ 61).2 = ⟨oc ++ [a, b], dg + 3, 1, 0⟩ := by
      rw [take_pad]
      unfold pad64
      rw [if_neg (by show ¬ ((dg + 3) % 4 < 2 ∨ (dg + 3) % 4 + 0 > 3 ∨ (0 : Int) ≠ 0); omega)]
      rfl
    rw [s1, s2, s3, s4]
    exact ⟨rfl, by show (dg + 3 + 1) % 4 = 0; omega⟩
  | a :: b :: c :: r, s, hx, h1, h2, h3 => by
    obtain ⟨a0, a1⟩ := hx a (by simp)
    obtain ⟨b0, b1⟩ := hx b (by simp)
    obtain ⟨c0, c1⟩ := hx c (by simp)
    obtain ⟨oc, dg, pd, rs⟩ := s
    have h1 : dg % 4 = 0 := h1
    have h2 : pd = 0 := h2
    have h3 : rs = 0 := h3
    subst h2 h3
    simp only [enc64, run64_cons]
    have s1 : (take64 ⟨oc, dg, 0, 0⟩ (dg64 (a / 4))).2 = ⟨oc, dg + 1, 0, a / 4⟩ := by
      rw [take_dig (by omega) (by omega) rfl]
      unfold dig64
      rw [if_pos h1]
      simp
    have s2 : (take64 ⟨oc, dg + 1, 0, a / 4⟩ (dg64 (a % 4 * 16 + b / 16))).2 = ⟨oc ++ [a], dg + 2, 0, b / 16⟩ := by
      rw [take_dig (by omega) (by omega) rfl]
      unfold dig64
      rw [if_neg (by show ¬ (dg + 1) % 4 = 0; omega), show (6 - 2 * ((⟨oc, dg + 1, 0, a / 4⟩ : B64).dg % 4)).toNat = 4 by show (6 - 2 * ((dg + 1) % 4)).toNat = 4; omega]
      show (⟨oc ++ [(a / 4 * 64 + (a % 4 * 16 + b / 16)) / 16], dg + 1 + 1, 0, (a / 4 * 64 + (a % 4 * 16 + b / 16)) % 16⟩ : B64) = _
      rw [show (a / 4 * 64 + (a % 4 * 16 + b / 16)) / 16 = a by omega, show (a / 4 * 64 + (a % 4 * 16 + b / 16)) % 16 = b / 16 by omega, show dg + 1 + 1 = dg + 2 by omega]
    have s3 : (take64 ⟨oc ++ [a], dg + 2, 0, b / 16⟩ (dg64 (b % 16 * 4 + c / 64))).2 = ⟨oc ++ [a, b], dg + 3, 0, c / 64⟩ := by
      rw [take_dig (by omega) (by omega) rfl]
      unfold dig64
      rw [if_neg (by show ¬ (dg + 2) % 4 = 0; omega), show (6 - 2 * ((⟨oc ++ [a], dg + 2, 0, b / 16⟩ : B64).dg % 4)).toNat = 2 by show (6 - 2 * ((dg + 2) % 4)).toNat = 2; omega]
      show (⟨oc ++ [a] ++ [(b / 16 * 64 + (b % 16 * 4 + c / 64)) / 4], dg + 2 + 1, 0, (b / 16 * 64 + (b % 16 * 4 + c / 64)) % 4⟩ : B64) = _
      rw [show (b / 16 * 64 + (b % 16 * 4 + c / 64)) / 4 = b by omega, show (b / 16 * 64 + (b % 16 * 4 + c / 64)) % 4 = c / 64 by omega, show dg + 2 + 1 = dg + 3 by omega, List.append_assoc]
      rfl
    have s4 : (take64 ⟨oc ++ [a, b], dg + 3, 0, c / 64⟩ (dg64 (c % 64))).2 = ⟨oc ++ [a, b, c], dg + 4, 0, 0⟩ := by
      rw [take_dig (by omega) (by omega) rfl]
      unfold dig64
      rw [if_neg (by show ¬ (dg + 3) % 4 = 0; omega), show (6 - 2 * ((⟨oc ++ [a, b], dg + 3, 0, c / 64⟩ : B64).dg % 4)).toNat = 0 by show (6 - 2 * ((dg + 3) % 4)).toNat = 0; omega]
      show (⟨oc ++ [a, b] ++ [(c / 64 * 64 + c % 64) / 1], dg + 3 + 1, 0, (c / 64 * 64 + c % 64) % 1⟩ : B64) = _
      rw [show (c / 64 * 64 + c % 64) / 1 = c by omega, show (c / 64 * 64 + c % 64) % 1 = 0 by omega, show dg + 3 + 1 = dg + 4 by omega, List.append_assoc]
      rfl
    rw [s1, s2, s3, s4]
    have q := run_enc r ⟨oc ++ [a, b, c], dg + 4, 0, 0⟩ (fun x hx' => hx x (by simp [hx'])) (by show (dg + 4) % 4 = 0; omega) rfl rfl
    refine ⟨?_, q.2⟩
    rw [q.1]
    simp
theorem enc64_app : ∀ (xs ys : List Int), xs.length % 3 = 0 → enc64 (xs ++ ys) = enc64 xs ++ enc64 ys
  | [], ys, _ => rfl
  | [a], ys, h => absurd h (by simp)
  | [a, b], ys, h => absurd h (by simp)
  | a :: b :: c :: r, ys, h => by
    have h : (r.length + 1 + 1 + 1) % 3 = 0 := h
    have q := enc64_app r ys (by omega)
    show dg64 _ :: dg64 _ :: dg64 _ :: dg64 _ :: enc64 (r ++ ys) = dg64 _ :: dg64 _ :: dg64 _ :: dg64 _ :: (enc64 r ++ enc64 ys)
    rw [q]
theorem enc64_len : ∀ (xs : List Int), (enc64 xs).length = (xs.length + 2) / 3 * 4
  | [] => rfl
  | [a] => by show 4 = (1 + 2) / 3 * 4; decide
  | [a, b] => by show 4 = (2 + 2) / 3 * 4; decide
  | a :: b :: c :: r => by
    show (enc64 r).length + 1 + 1 + 1 + 1 = (r.length + 1 + 1 + 1 + 2) / 3 * 4
    rw [enc64_len r]
    omega
/-- the group of three -/
def grp64 (a b c : Int) (n : Nat) : List Int := ([18, 12, 6, 0].map fun s : Nat => dg64 ((a * 65536 + b * 256 + c) / 2 ^ s % 64)).take (n + 1) ++ List.replicate (3 - n) 61
theorem grp3 {a b c : Int} (a0 : 0 ≤ a) (a1 : a < 256) (b0 : 0 ≤ b) (b1 : b < 256) (c0 : 0 ≤ c) (c1 : c < 256) : grp64 a b c 3 = [dg64 (a / 4), dg64 (a % 4 * 16 + b / 16), dg64 (b % 16 * 4 + c / 64), dg64 (c % 64)] := by
  show [dg64 ((a * 65536 + b * 256 + c) / 2 ^ 18 % 64), dg64 ((a * 65536 + b * 256 + c) / 2 ^ 12 % 64), dg64 ((a * 65536 + b * 256 + c) / 2 ^ 6 % 64), dg64 ((a * 65536 + b * 256 + c) / 2 ^ 0 % 64)] = _
  rw [show (a * 65536 + b * 256 + c) / 2 ^ 18 % 64 = a / 4 by omega, show (a * 65536 + b * 256 + c) / 2 ^ 12 % 64 = a % 4 * 16 + b / 16 by omega, show (a * 65536 + b * 256 + c) / 2 ^ 6 % 64 = b % 16 * 4 + c / 64 by omega, show (a * 65536 + b * 256 + c) / 2 ^ 0 % 64 = c % 64 by omega]
theorem grp2 {a b : Int} (a0 : 0 ≤ a) (a1 : a < 256) (b0 : 0 ≤ b) (b1 : b < 256) : grp64 a b 0 2 = enc64 [a, b] := by
  show [dg64 ((a * 65536 + b * 256 + 0) / 2 ^ 18 % 64), dg64 ((a * 65536 + b * 256 + 0) / 2 ^ 12 % 64), dg64 ((a * 65536 + b * 256 + 0) / 2 ^ 6 % 64), 61] = [_, _, _, _]
  rw [show (a * 65536 + b * 256 + 0) / 2 ^ 18 % 64 = a / 4 by omega, show (a * 65536 + b * 256 + 0) / 2 ^ 12 % 64 = a % 4 * 16 + b / 16 by omega, show (a * 65536 + b * 256 + 0) / 2 ^ 6 % 64 = b % 16 * 4 by omega]
theorem grp1 {a : Int} (a0 : 0 ≤ a) (a1 : a < 256) : grp64 a 0 0 1 = enc64 [a] := by
  show [dg64 ((a * 65536 + 0 * 256 + 0) / 2 ^ 18 % 64), dg64 ((a * 65536 + 0 * 256 + 0) / 2 ^ 12 % 64), 61, 61] = [_, _, _, _]
  rw [show (a * 65536 + 0 * 256 + 0) / 2 ^ 18 % 64 = a / 4 by omega, show (a * 65536 + 0 * 256 + 0) / 2 ^ 12 % 64 = a % 4 * 16 by omega]
/-- digits alone -/
def raw64 : List Int → List Int
  | [] => []
  | [a] => [a / 4, a % 4 * 16]
  | [a, b] => [a / 4, a % 4 * 16 + b / 16, b % 16 * 4]
  | a :: b :: c :: r => a / 4 :: (a % 4 * 16 + b / 16) :: (b % 16 * 4 + c / 64) :: (c % 64) :: raw64 r
theorem raw64_len : ∀ (xs : List Int), (raw64 xs).length = (xs.length * 8 + 5) / 6
  | [] => rfl
  | [a] => by show 2 = (1 * 8 + 5) / 6; decide
  | [a, b] => by show 3 = (2 * 8 + 5) / 6; decide
  | a :: b :: c :: r => by
    show (raw64 r).length + 1 + 1 + 1 + 1 = ((r.length + 1 + 1 + 1) * 8 + 5) / 6
    rw [raw64_len r]
    omega
theorem raw_enc : ∀ (xs : List Int), enc64 xs = (raw64 xs).map dg64 ++ List.replicate ((4 - (raw64 xs).length % 4) % 4) 61
  | [] => rfl
  | [a] => rfl
  | [a, b] => rfl
  | a :: b :: c :: r => by
    have q := raw_enc r
    have e : (raw64 (a :: b :: c :: r)).length % 4 = (raw64 r).length % 4 := by
      show ((raw64 r).length + 1 + 1 + 1 + 1) % 4 = _
      omega
    rw [e]
    show dg64 _ :: dg64 _ :: dg64 _ :: dg64 _ :: enc64 r = dg64 _ :: dg64 _ :: dg64 _ :: dg64 _ :: ((raw64 r).map dg64 ++ _)
    rw [q]
theorem raw_range : ∀ (xs : List Int), (∀ x ∈ xs, 0 ≤ x ∧ x < 256) → ∀ w ∈ raw64 xs, 0 ≤ w ∧ w < 64
  | [], _, w, h => absurd h (by simp [raw64])
  | [a], hx, w, h => by
    obtain ⟨a0, a1⟩ := hx a (by simp)
    simp only [raw64, List.mem_cons, List.not_mem_nil, or_false] at h
    rcases h with h | h <;> omega
  | [a, b], hx, w, h => by
    obtain ⟨a0, a1⟩ := hx a (by simp)
    obtain ⟨b0, b1⟩ := hx b (by simp)
    simp only [raw64, List.mem_cons, List.not_mem_nil, or_false] at h
    rcases h with h | h | h <;> omega
  | a :: b :: c :: r, hx, w, h => by
    obtain ⟨a0, a1⟩ := hx a (by simp)
    obtain ⟨b0, b1⟩ := hx b (by simp)
    obtain ⟨c0, c1⟩ := hx c (by simp)
    simp only [raw64, List.mem_cons] at h
    rcases h with h | h | h | h | h
    · omega
    · omega
    · omega
    · omega
    · exact raw_range r (fun x hx' => hx x (by simp [hx'])) w h
/-- the bits of a digit, one by one -/
def tm64 (xs : List Int) (k j : Nat) : Int := match xs[(6 * k + j) / 8]? with
  | some o => o / 2 ^ (7 - (6 * k + j) % 8) % 2 * 2 ^ (5 - j)
  | none => 0
def lb64 (xs : List Int) (k : Nat) : Nat → Int
  | 0 => 0
  | j + 1 => lb64 xs k j + tm64 xs k j
theorem lb_shift (a b c : Int) (r : List Int) (k : Nat) : ∀ j, lb64 (a :: b :: c :: r) (k + 4) j = lb64 r k j
  | 0 => rfl
  | j + 1 => by
    show lb64 _ (k + 4) j + tm64 _ (k + 4) j = lb64 r k j + tm64 r k j
    rw [lb_shift a b c r k j]
    congr 1
    unfold tm64
    rw [show (6 * (k + 4) + j) / 8 = (6 * k + j) / 8 + 3 by omega, show (6 * (k + 4) + j) % 8 = (6 * k + j) % 8 by omega]
    rfl
theorem lb_raw : ∀ (xs : List Int), (∀ x ∈ xs, 0 ≤ x ∧ x < 256) → ∀ k w, (raw64 xs)[k]? = some w → lb64 xs k 6 = w
  | [], _, k, w, h => by simp [raw64] at h
  | [a], hx, k, w, h => by
    obtain ⟨a0, a1⟩ := hx a (by simp)
    match k, h with
    | 0, h =>
      have e : a / 4 = w := by simpa [raw64] using h
      simp only [lb64, tm64, Nat.mul_zero, Nat.zero_add, Nat.reduceDiv, Nat.reduceMod, Nat.reduceSub, List.getElem?_cons_zero]
      omega
    | 1, h =>
      have e : a % 4 * 16 = w := by simpa [raw64] using h
      simp only [lb64, tm64, Nat.mul_one, Nat.reduceAdd, Nat.reduceDiv, Nat.reduceMod, Nat.reduceSub, List.getElem?_cons_zero, List.getElem?_cons_succ, List.getElem?_nil]
      omega
    | k + 2, h => simp [raw64] at h
  | [a, b], hx, k, w, h => by
    obtain ⟨a0, a1⟩ := hx a (by simp)
    obtain ⟨b0, b1⟩ := hx b (by simp)
    match k, h with
    | 0, h =>
      have e : a / 4 = w := by simpa [raw64] using h
      simp only [lb64, tm64, Nat.mul_zero, Nat.zero_add, Nat.reduceDiv, Nat.reduceMod, Nat.reduceSub, List.getElem?_cons_zero]
      omega
    | 1, h =>
      have e : a % 4 * 16 + b / 16 = w := by simpa [raw64] using h
      simp only [lb64, tm64, Nat.mul_one, Nat.reduceAdd, Nat.reduceDiv, Nat.reduceMod, Nat.reduceSub, List.getElem?_cons_zero, List.getElem?_cons_succ, List.getElem?_nil]
      omega
    | 2, h =>
      have e : b % 16 * 4 = w := by simpa [raw64] using h
      simp only [lb64, tm64, Nat.reduceMul, Nat.reduceAdd, Nat.reduceDiv, Nat.reduceMod, Nat.reduceSub, List.getElem?_cons_zero, List.getElem?_cons_succ, List.getElem?_nil]
      omega
    | k + 3, h => simp [raw64] at h
  | a :: b :: c :: r, hx, k, w, h => by
    obtain ⟨a0, a1⟩ := hx a (by simp)
    obtain ⟨b0, b1⟩ := hx b (by simp)
    obtain ⟨c0, c1⟩ := hx c (by simp)
    match k, h with
    | 0, h =>
      have e : a / 4 = w := by simpa [raw64] using h
      simp only [lb64, tm64, Nat.mul_zero, Nat.zero_add, Nat.reduceDiv, Nat.reduceMod, Nat.reduceSub, List.getElem?_cons_zero]
      omega
    | 1, h =>
      have e : a % 4 * 16 + b / 16 = w := by simpa [raw64] using h
      simp only [lb64, tm64, Nat.mul_one, Nat.reduceAdd, Nat.reduceDiv, Nat.reduceMod, Nat.reduceSub, List.getElem?_cons_zero, List.getElem?_cons_succ]
      omega
    | 2, h =>
      have e : b % 16 * 4 + c / 64 = w := by simpa [raw64] using h
      simp only [lb64, tm64, Nat.reduceMul, Nat.reduceAdd, Nat.reduceDiv, Nat.reduceMod, Nat.reduceSub, List.getElem?_cons_zero, List.getElem?_cons_succ]
      omega
    | 3, h =>
      have e : c % 64 = w := by simpa [raw64] using h
      simp only [lb64, tm64, Nat.reduceMul, Nat.reduceAdd, Nat.reduceDiv, Nat.reduceMod, Nat.reduceSub, List.getElem?_cons_zero, List.getElem?_cons_succ]
      omega
    | k + 4, h =>
      rw [lb_shift]
      exact lb_raw r (fun x hx' => hx x (by simp [hx'])) k w (by simpa [raw64] using h)

abbrev DIG64 : Str := "ABCDEFGHIJKLMNOPQRSTUVWXYZabcdefghijklmnopqrstuvwxyz0123456789+/"
/-! ### what is written -/
def sp__encode_group (K : Frg) : Sp := sp1 fun o H Q _ => ∃ p xs, o = .ref p ∧ (SqL K H p (xs.map V.int) ∨ SqT K H p (xs.map V.int)) ∧ 1 ≤ xs.length ∧ xs.length ≤ 3 ∧ (∀ x ∈ xs, 0 ≤ x ∧ x < 256) ∧ ∀ q H', H q = none → H' q = some (.lst ((enc64 xs).map V.int)) → Same H H' → Q (.ref q) H'
abbrev s__encode_group : Stmt := (top 7)
theorem sc__encode_group : FnScope ["octets", "first", "second", "third", "bits", "digits", "many", "shift"] ["octets"] (defScope s__encode_group) := ⟨rfl, rfl, rfl, by decide +kernel, rfl, by decide +kernel, by decide +kernel⟩
abbrev s_encode64 : Stmt := (top 6)
theorem sc_encode64 : FnScope ["octets", "written", "at"] ["octets"] (defScope s_encode64) := ⟨rfl, rfl, rfl, by decide +kernel, rfl, by decide +kernel, by decide +kernel⟩
abbrev s__law_digits : Stmt := (top 14)
theorem sc__law_digits : FnScope [] [] (defScope s__law_digits) := ⟨rfl, rfl, rfl, by decide +kernel, rfl, by decide +kernel, by decide +kernel⟩
abbrev s__law_encoded : Stmt := (top 15)
theorem sc__law_encoded : FnScope ["octets", "found", "k", "bits", "j", "at"] ["octets"] (defScope s__law_encoded) := ⟨rfl, rfl, rfl, by decide +kernel, rfl, by decide +kernel, by decide +kernel⟩
def sp__law_digits : Sp := sp0 fun H Q _ => Q (.str DIG64) H
def sp_encode64 (K : Frg) : Sp := sp1 fun o H Q _ => ∃ p xs, o = .ref p ∧ (SqL K H p (xs.map V.int) ∨ SqT K H p (xs.map V.int)) ∧ xs.length ≤ 700 ∧ (∀ x ∈ xs, 0 ≤ x ∧ x < 256) ∧ ∀ q H', H q = none → H' q = some (.lst ((enc64 xs).map V.int)) → Same H H' → Q (.ref q) H'
def sp__law_encoded (K : Frg) : Sp := sp1 fun o H Q _ => ∃ p xs, o = .ref p ∧ H p = some (.lst (xs.map V.int)) ∧ xs.length ≤ 700 ∧ (∀ x ∈ xs, 0 ≤ x ∧ x < 256) ∧ ∀ q H', H q = none → H' q = some (.lst ((enc64 xs).map V.int)) → Same H H' → Q (.ref q) H'
theorem grp_of (xs : List Int) (h1 : 1 ≤ xs.length) (h3 : xs.length ≤ 3) (hx : ∀ x ∈ xs, 0 ≤ x ∧ x < 256) : ∃ (a b c : Int) (ws : List Int), xs ++ [0, 0] = a :: b :: c :: ws ∧ (0 ≤ a ∧ a < 256) ∧ (0 ≤ b ∧ b < 256) ∧ (0 ≤ c ∧ c < 256) ∧ grp64 a b c xs.length = enc64 xs := by
  rcases xs with _ | ⟨a, _ | ⟨b, _ | ⟨c, _ | ⟨d, r⟩⟩⟩⟩
  · exact absurd h1 (by simp)
  · have q := grp1 (hx a (by simp)).1 (hx a (by simp)).2
    exact ⟨a, 0, 0, [], by simp, hx a (by simp), by decide, by decide, by rw [← q, List.length_singleton]⟩
  · have q := grp2 (hx a (by simp)).1 (hx a (by simp)).2 (hx b (by simp)).1 (hx b (by simp)).2
    exact ⟨a, b, 0, [0], by simp, hx a (by simp), hx b (by simp), by decide, by rw [← q, List.length_cons, List.length_singleton]⟩
  · have q := grp3 (hx a (by simp)).1 (hx a (by simp)).2 (hx b (by simp)).1 (hx b (by simp)).2 (hx c (by simp)).1 (hx c (by simp)).2
    refine ⟨a, b, c, [0, 0], by simp, hx a (by simp), hx b (by simp), hx c (by simp), ?_⟩
    rw [List.length_cons, List.length_cons, List.length_singleton, q]
    rfl
  · exact absurd h3 (by simp)
def gds64 (b : Int) : List Int := [18, 12, 6, 0].map fun s : Nat => dg64 (b / 2 ^ s % 64)
theorem gds_get {b : Int} {i : Nat} {c : Int} (h : ([18, 12, 6, 0] : List Int)[i]? = some c) : 0 ≤ c ∧ (gds64 b)[i]? = some (dg64 (b / 2 ^ c.toNat % 64)) := by
  rcases i with _ | _ | _ | _ | i
  · cases h
    exact ⟨by decide, rfl⟩
  · cases h
    exact ⟨by decide, rfl⟩
  · cases h
    exact ⟨by decide, rfl⟩
  · cases h
    exact ⟨by decide, rfl⟩
  · simp at h
theorem dig_all : ∀ k ∈ List.range 64, atI DIG64.cps.toList (k : Int) = some (dg64 (k : Int)).toNat := by decide +kernel
/-- ord of a digit of the alphabet -/
theorem dig_at {i : Int} (h0 : 0 ≤ i) (h1 : i < 64) : ∃ c : Nat, atI DIG64.cps.toList i = some c ∧ V.int (((⟨#[c]⟩ : Str).cps.getD 0 0 : Nat) : Int) = V.int (dg64 i) := by
  have e : ((i.toNat : Nat) : Int) = i := by omega
  have q := dig_all i.toNat (List.mem_range.mpr (by omega))
  rw [e] at q
  refine ⟨_, q, ?_⟩
  have e2 : (((dg64 i).toNat : Nat) : Int) = dg64 i := by
    have := (dg64_ok h0 h1).2.2.1
    omega
  show V.int (((dg64 i).toNat : Nat) : Int) = _
  rw [e2]
theorem dig_len : DIG64.length ≤ sizeLine := by decide +kernel
section
variable {P : Program} {w : World} {K : PySem.W.Frag} {mg : Str → Option Value} {base : Heap} {f : Addr} {fd : FuncData}
theorem ok__encode_group (F : FunD K "_encode_group" "_encode_group" (defArgs s__encode_group) (defBody s__encode_group) (defScope s__encode_group) [] [] (glAd "_encode_group" K) fd) (m : mg "_encode_group" = some (.ref (glAd "_encode_group" K))) (nb : Nm K mg) : Cal P w K mg base 1 "_encode_group" (sp__encode_group K) [] := by
  refine calD F m sc__encode_group (fun _ _ _ _ _ _ us hl => match us, hl with | [_], _ => rfl) len1 (fun cdv A outer s H vs Q E hr h => ⟨_, (pss_cons (ps_asg (pe_slice sl_list (pe_op op_cat (pe_callTy call_list_of (by rfl) nb.list (by decide +kernel) (pa_cons (pv 0) pa_nil)) (pe_lst (pa_cons pe_int (pa_cons pe_int pa_nil)))) po_none (po_some pe_int)) (pg_unl rfl (pgs_cons (pg_name (i := 1) sc__encode_group.nd rfl (Or.inl rfl)) (pgs_cons (pg_name (i := 2) sc__encode_group.nd rfl (Or.inl rfl)) (pgs_cons (pg_name (i := 3) sc__encode_group.nd rfl (Or.inl rfl)) pgs_nil)))))
    (pss_cons (ps_set (i := 4) sc__encode_group.nd rfl (Or.inr rfl) (pe_op op_add (pe_op op_add (pe_op op_mul (pv 1) pe_int) (pe_op op_mul (pv 2) pe_int)) (pv 3)))
    (pss_cons (ps_setLc (i := 5) (own := [("shift", 7)]) (g := gName 7) (tt := tYes) rfl sc__encode_group.nd rfl rfl (sw_true rfl rfl rfl (by decide +kernel)) (pi_tup (pe_tup (pa_cons pe_int (pa_cons pe_int (pa_cons pe_int (pa_cons pe_int pa_nil)))))) (blkOk_by (N := ["octets", "first", "second", "third", "bits", "digits", "many", "shift"]) (sc := defScope s__encode_group) (by decide +kernel)) (fun _ _ _ _ _ => pg_name (i := 7) sc__encode_group.nd rfl (Or.inl rfl)) (fun _ _ _ _ _ => pts_nil) (fun _ _ _ _ _ => (pe_callB call_ord (by rfl) nb.ord (by decide +kernel) (pa_cons (pe_ix ix_str (pe_gc rfl nb.g_DIGITS) (pe_op op_mod (pe_op op_shr (pv 4) (pv 7)) pe_int) (fun _ _ => rfl)) pa_nil))))
    (pss_cons (ps_set (i := 6) sc__encode_group.nd rfl (Or.inl rfl) (pe_op op_add (pe_callB call_len_seq (by rfl) nb.len PySem.boot_len (pa_cons (pv 0) pa_nil)) pe_int))
    (pss_one (ps_ret (pe_op op_cat (pe_slice sl_list (pv 5) po_none (po_some (pv 6))) (pe_op op_rep (pe_lst (pa_cons (pe_gc rfl nb.g_PAD) pa_nil)) (pe_op op_sub pe_int (pv 6)))))))))), ?_⟩)
  obtain ⟨_, rfl, p, xs, rfl, hs, h1, h3, hx, h⟩ := h
  obtain ⟨a, b, c, ws, eg, ha, hb, hc, ex⟩ := grp_of xs h1 h3 hx
  walk_at "rd"
  refine ⟨p, _, rfl, hs, fun l1 n1 => ?_⟩
  have s1 := same_upd n1 (.lst (xs.map V.int))
  walk_at "rd"
  refine ⟨by show 2 ≤ sizeLine; decide, fun l2 n2 => ?_⟩
  have s2 := same_upd n2 (.lst [.int 0, .int 0])
  refine r_catI (ys := [0, 0]) (s2 _ _ upd_same) upd_same (by show xs.length + 2 ≤ 1000; omega) fun l3 H3 n3 g3 s3 => ?_
  walk_at "rd"
  rw [eg] at g3
  refine ⟨_, rfl, r_slI (ys := [a, b, c]) g3 (cut_to' (zs := a :: b :: c :: ws) (d := 3)) fun l4 H4 n4 g4 s4 => ?_⟩
  have k4 := ((s1.trans s2).trans s3).trans s4
  clear s1 s2 s3 s4 n1 n2 n3 g3
  refine r_gunl (xs := [.int a, .int b, .int c]) (SqL.of g4) rfl ?_
  walk_at "rd"
  refine ⟨by show 4 ≤ sizeLine; decide, fun l5 n5 => ?_⟩
  have g5 : upd H4 l5 (.tup [.int 18, .int 12, .int 6, .int 0]) l5 = some (.tup (([18, 12, 6, 0] : List Int).map V.int)) := upd_same
  have s5 := k4.trans (same_upd n5 (.tup [.int 18, .int 12, .int 6, .int 0]))
  generalize upd H4 l5 (.tup [.int 18, .int 12, .int 6, .int 0]) = H5 at g5 s5 ⊢
  clear k4 n4 g4
  refine ⟨l5, rfl, ⟨_, SqT.of g5⟩, fun D nD => ?_⟩
  refine lc_tup (xs := ([18, 12, 6, 0] : List Int).map V.int) (fun i H' => Same H5 H' ∧ H' D = some (.lst ((gds64 (a * 65536 + b * 256 + c)).take i |>.map V.int))) ⟨same_upd nD _, upd_same⟩ (fun i H' _ h => SqT.of (h.1 _ _ g5)) ?_ ?_
  · rintro i x H6 hi ⟨s6, g6⟩
    obtain ⟨c', hc', rfl, _⟩ := ints_get hi
    obtain ⟨c0, ec⟩ := gds_get (b := a * 65536 + b * 256 + c) hc'
    walk_at "rd"
    refine ⟨rfl, ?_⟩
    walk_at "rd"
    refine r_I c0 ?_
    walk_at "rd"
    obtain ⟨dc, q1, q2⟩ := dig_at (i := (a * 65536 + b * 256 + c) / 2 ^ c'.toNat % 64) (Int.emod_nonneg _ (by decide)) (Int.emod_lt_of_pos _ (by decide))
    refine ⟨_, _, dc, rfl, rfl, dig_len, q1, ⟨_, rfl, rfl, ?_⟩⟩
    rw [q2]
    exact ⟨_, g6, small1000 (by rw [List.length_map, List.length_take]; show min i 4 ≤ 1000; omega), same_away s6 nD, by rw [upd_same, map_snoc, ints_step ec]⟩
  rintro H6 ⟨s6, g6⟩
  have k6 := s5.trans s6
  clear s5 s6 nD g5 n5
  rw [show (gds64 (a * 65536 + b * 256 + c)).take (([18, 12, 6, 0] : List Int).map V.int).length = gds64 (a * 65536 + b * 256 + c) from rfl] at g6
  walk_at "rd"
  refine ⟨p, _, rfl, same_seq k6 hs, ?_⟩
  rw [List.length_map]
  walk_at "rd"
  refine ⟨_, rfl, r_slI (ys := (gds64 (a * 65536 + b * 256 + c)).take (xs.length + 1)) g6 (cut_to' (d := xs.length + 1)) fun l6 H7 n6 g7 s7 => ?_⟩
  walk_at "rd"
  refine ⟨by show 1 ≤ sizeLine; decide, fun l7 n7 => ?_⟩
  have s8 := same_upd n7 (.lst [.int 61])
  walk_at "rd"
  refine r_repI (z := 61) upd_same (by omega) (by omega) fun l8 H8 n8 g8 s8' => ?_
  refine r_catI (s8' _ _ (s8 _ _ g7)) g8 (by rw [List.length_take, List.length_replicate]; omega) fun l9 H9 n9 g9 s9 => ?_
  have k9 := (((k6.trans s7).trans s8).trans s8').trans s9
  refine h l9 H9 (((((k6.trans s7).trans s8).trans s8')).free n9) ?_ k9
  rw [g9, ← ex]
  have e : (4 - ((xs.length : Nat) + 1) : Int).toNat = 3 - xs.length := by omega
  rw [e]
  rfl
theorem enc_step {xs : List Int} {i : Nat} (h : 3 * i ≤ xs.length) : enc64 (xs.take (3 * (i + 1))) = enc64 (xs.take (3 * i)) ++ enc64 ((xs.drop (3 * i)).take 3) := by
  rw [show 3 * (i + 1) = 3 * i + 3 by omega, List.take_add, enc64_app _ _ (by rw [List.length_take]; omega)]
theorem ok_encode64 (F : FunD K "encode64" "encode64" (defArgs s_encode64) (defBody s_encode64) (defScope s_encode64) [] [] (glAd "encode64" K) fd) (m : mg "encode64" = some (.ref (glAd "encode64" K))) (nb : Nm K mg) (c__encode_group : Cal P w K mg base 1 "_encode_group" (sp__encode_group K) []) : Cal P w K mg base 2 "encode64" (sp_encode64 K) [] := by
  refine calD F m sc_encode64 (fun _ _ _ _ _ _ us hl => match us, hl with | [_], _ => rfl) len1 (fun cdv A outer s H vs Q E hr h => ⟨_, (pss_cons (ps_set (i := 1) sc_encode64.nd rfl (Or.inl rfl) (pe_lst pa_nil))
    (pss_cons (ps_for PassesOwn.never rfl (pi_range3 rfl nb.range (pa_cons pe_int (pa_cons (pe_callB call_len_seq (by rfl) nb.len PySem.boot_len (pa_cons (pv 0) pa_nil)) (pa_cons pe_int pa_nil)))) (pg_name (i := 2) sc_encode64.nd rfl (Or.inl rfl))
    (pss_one (ps_expr (pe_bm PySem.F.plainAttrs_list PySem.F.slot_list_extend PySem.F.type_list_extend mt_extend (pv 1) (pa_cons (pe_c c__encode_group hr (by decide) rfl (pa_cons (pe_slice (sl_list.or sl_tupA) (pv 0) (po_some (pv 2)) (po_some (pe_op op_add (pv 2) pe_int))) pa_nil)) pa_nil)))))
    (pss_one (ps_ret (pv 1))))), ?_⟩)
  obtain ⟨_, rfl, p, xs, rfl, hs, hn, hx, h⟩ := h
  walk_at "rd"
  refine ⟨Nat.zero_le _, fun l0 n0 => ?_⟩
  have s0 := same_upd n0 (.lst [])
  walk_at "rd"
  refine ⟨p, _, rfl, same_seq s0 hs, ?_⟩
  rw [List.length_map]
  refine ⟨0, _, 3, (xs.length + 2) / 3, rfl, r_eachR _ (rgP xs.length 3 _ (by omega) (by decide) (by decide) rfl) (fun i σ H' => ∃ y, σ = [some (.ref p), some (.ref l0), y] ∧ Same H H' ∧ H' l0 = some (.lst ((enc64 (xs.take (3 * i))).map V.int))) ⟨none, rfl, s0, upd_same⟩ ?_ ?_⟩
  · rintro i σ H1 hi ⟨y, rfl, s1, g1⟩
    walk_at "rd"
    refine ⟨tyL g1, ?_⟩
    walk_at "rd"
    rw [show (0 : Int) + (i : Int) * 3 = ((3 * i : Nat) : Int) by omega]
    refine ⟨_, rfl, ?_⟩
    walk_at "rd"
    refine ⟨_, rfl, ?_⟩
    rw [show ((3 * i : Nat) : Int) + 3 = ((3 * i + 3 : Nat) : Int) by omega]
    refine r_slSeq (by omega) (same_seq s1 hs) fun q H2 hq s2 => ?_
    rw [show 3 * i + 3 - 3 * i = 3 by omega] at hq
    have hl : ((xs.drop (3 * i)).take 3).length = min 3 (xs.length - 3 * i) := by rw [List.length_take, List.length_drop]
    refine ⟨_, rfl, q, _, rfl, hq, by omega, by omega, fun x hx' => hx x (List.mem_of_mem_drop (List.mem_of_mem_take hx')), fun q3 H3 n3 g3 s3 => ?_⟩
    walk_at "rd"
    have el := enc64_len (xs.take (3 * i))
    rw [List.length_take] at el
    have el2 := enc64_len ((xs.drop (3 * i)).take 3)
    refine r_extI (s3 _ _ (s2 _ _ g1)) g3 (by omega) fun H4 g4 _ f4 => ?_
    exact ⟨_, rfl, f4 _ ((s1.trans s2).trans s3) n0, by rw [g4, enc_step (by omega)]⟩
  · rintro σ H1 ⟨y, rfl, s1, g1⟩
    walk_at "rd"
    rw [List.take_of_length_le (by omega)] at g1
    exact h l0 H1 n0 g1 s1
theorem ok__law_digits (F : FunD K "_law_digits" "_law_digits" (defArgs s__law_digits) (defBody s__law_digits) (defScope s__law_digits) [] [] (glAd "_law_digits" K) fd) (m : mg "_law_digits" = some (.ref (glAd "_law_digits" K))) (nb : Nm K mg) : Cal P w K mg base 1 "_law_digits" sp__law_digits [] := by
  refine calD F m sc__law_digits (fun _ _ _ _ _ _ us hl => match us, hl with | [], _ => rfl) len0 (fun cdv A outer s H vs Q E hr h => ⟨_, (pss_one (ps_ret pe_str)), ?_⟩)
  obtain ⟨rfl, h⟩ := h
  walk_at "rd"
  exact h
theorem lb_step (xs : List Int) (k j : Nat) : lb64 xs k (j + 1) = lb64 xs k j + tm64 xs k j := rfl
def p128 : List Int := [128, 64, 32, 16, 8, 4, 2, 1]
def p32 : List Int := [32, 16, 8, 4, 2, 1]
theorem p128_get {j : Nat} (h : j < 8) : atI (p128.map V.int) (j : Nat) = some (.int (2 ^ (7 - j))) := by
  rcases j with _ | _ | _ | _ | _ | _ | _ | _ | j
  all_goals first | rfl | omega
theorem p32_get {j : Nat} (h : j < 6) : atI (p32.map V.int) (j : Nat) = some (.int (2 ^ (5 - j))) := by
  rcases j with _ | _ | _ | _ | _ | _ | j
  all_goals first | rfl | omega
theorem ok__law_encoded (F : FunD K "_law_encoded" "_law_encoded" (defArgs s__law_encoded) (defBody s__law_encoded) (defScope s__law_encoded) [] [] (glAd "_law_encoded" K) fd) (m : mg "_law_encoded" = some (.ref (glAd "_law_encoded" K))) (nb : Nm K mg) (c__law_digits : Cal P w K mg base 1 "_law_digits" sp__law_digits []) : Cal P w K mg base 2 "_law_encoded" (sp__law_encoded K) [] := by
  refine calD F m sc__law_encoded (fun _ _ _ _ _ _ us hl => match us, hl with | [_], _ => rfl) len1 (fun cdv A outer s H vs Q E hr h => ⟨_, (pss_cons (ps_set (i := 1) sc__law_encoded.nd rfl (Or.inl rfl) (pe_lst pa_nil))
    (pss_cons (ps_for PassesOwn.never rfl (pi_range1 rfl nb.range (pa_cons (pe_op op_fdiv (pe_op op_add (pe_op op_mul (pe_callB call_len_seq (by rfl) nb.len PySem.boot_len (pa_cons (pv 0) pa_nil)) pe_int) pe_int) pe_int) pa_nil)) (pg_name (i := 2) sc__law_encoded.nd rfl (Or.inl rfl))
    (pss_cons (ps_set (i := 3) sc__law_encoded.nd rfl (Or.inl rfl) pe_int)
    (pss_cons (ps_for PassesOwn.never rfl (pi_range1 rfl nb.range (pa_cons pe_int pa_nil)) (pg_name (i := 4) sc__law_encoded.nd rfl (Or.inl rfl))
    (pss_cons (ps_set (i := 5) sc__law_encoded.nd rfl (Or.inl rfl) (pe_op op_add (pe_op op_mul pe_int (pv 2)) (pv 4)))
    (pss_one (ps_if (pt_cmpR op_lt (pe_op op_fdiv (pv 5) pe_int) (pe_callB call_len_seq (by rfl) nb.len PySem.boot_len (pa_cons (pv 0) pa_nil)) (nomark _))
    (pss_one (ps_set (i := 3) sc__law_encoded.nd rfl (Or.inl rfl) (pe_op op_add (pv 3) (pe_op op_mul (pe_op op_mod (pe_op op_fdiv (pe_ix ix_list (pv 0) (pe_op op_fdiv (pv 5) pe_int) (fun _ _ => rfl)) (pe_ix ix_list (pe_lst (pa_cons pe_int (pa_cons pe_int (pa_cons pe_int (pa_cons pe_int (pa_cons pe_int (pa_cons pe_int (pa_cons pe_int (pa_cons pe_int pa_nil))))))))) (pe_op op_mod (pv 5) pe_int) (fun _ _ => rfl))) pe_int) (pe_ix ix_list (pe_lst (pa_cons pe_int (pa_cons pe_int (pa_cons pe_int (pa_cons pe_int (pa_cons pe_int (pa_cons pe_int pa_nil))))))) (pv 4) (fun _ _ => rfl))))))
    pss_nil))))
    (pss_one (ps_expr (pe_bm PySem.F.plainAttrs_list PySem.F.slot_list_append PySem.F.type_list_append mt_append (pv 1) (pa_cons (pe_callB call_ord (by rfl) nb.ord (by decide +kernel) (pa_cons (pe_ix ix_str (pe_c0 c__law_digits hr (by decide) rfl) (pv 3) (fun _ _ => rfl)) pa_nil)) pa_nil)))))))
    (pss_cons (ps_while PassesOwn.never (pt_cmpR op_ne (pe_op op_mod (pe_callB call_len_seq (by rfl) nb.len PySem.boot_len (pa_cons (pv 1) pa_nil)) pe_int) pe_int (nomark _))
    (pss_one (ps_expr (pe_bm PySem.F.plainAttrs_list PySem.F.slot_list_append PySem.F.type_list_append mt_append (pv 1) (pa_cons pe_int pa_nil)))))
    (pss_one (ps_ret (pv 1)))))), ?_⟩)
  obtain ⟨_, rfl, p, xs, rfl, hp, hn, hx, h⟩ := h
  have rl := raw64_len xs
  walk_at "rd"
  refine ⟨Nat.zero_le _, fun l0 n0 => ?_⟩
  have s0 := same_upd n0 (.lst [])
  walk_at "rd"
  refine ⟨p, _, rfl, .inl (SqL.of (s0 _ _ hp)), ?_⟩
  rw [List.length_map]
  walk_at "rd"
  rw [show ((xs.length : Nat) * 8 + 5 : Int) / 6 = ((xs.length * 8 + 5) / 6 : Nat) by omega, ← rl]
  refine r_turns (by omega) (by omega) (fun i σ H' => ∃ y1 y2 y3 y4, σ = [some (.ref p), some (.ref l0), y1, y2, y3, y4] ∧ Same H H' ∧ H' l0 = some (.lst ((((raw64 xs).map dg64).take i).map V.int))) ⟨none, none, none, none, rfl, s0, upd_same⟩ ?_ ?_
  · rintro i σ H1 hi ⟨y1, y2, y3, y4, rfl, s1, g1⟩
    have hi : i < (raw64 xs).length := by omega
    obtain ⟨w, hw⟩ : ∃ w, (raw64 xs)[i]? = some w := ⟨_, List.getElem?_eq_getElem hi⟩
    have hwr := raw_range xs hx w (List.mem_of_getElem? hw)
    have hlb := lb_raw xs hx i w hw
    walk_at "rd"
    refine r_turns (by decide) (by decide) (fun j σ H' => ∃ z1 z2, σ = [some (.ref p), some (.ref l0), some (.int (i : Nat)), some (.int (lb64 xs i j)), z1, z2] ∧ Same H H' ∧ H' l0 = some (.lst ((((raw64 xs).map dg64).take i).map V.int))) ⟨_, _, rfl, s1, g1⟩ ?_ ?_
    · rintro j σ H2 hj ⟨z1, z2, rfl, s2, g2⟩
      have hj : j < 6 := by omega
      walk_at "rd"
      refine ⟨p, _, rfl, .inl (SqL.of (s2 _ _ hp)), ?_⟩
      rw [List.length_map]
      walk_at "rd"
      rw [show (6 * (i : Int) + (j : Int)) / 8 = (((6 * i + j) / 8 : Nat) : Int) by omega]
      refine r_ite (fun c => ?_) (fun c => ?_)
      · have c : (6 * i + j) / 8 < xs.length := by omega
        obtain ⟨o, ho⟩ : ∃ o, xs[(6 * i + j) / 8]? = some o := ⟨_, List.getElem?_eq_getElem c⟩
        have ho2 := hx o (List.mem_of_getElem? ho)
        walk_at "rd"
        rw [show (6 * (i : Int) + (j : Int)) / 8 = (((6 * i + j) / 8 : Nat) : Int) by omega]
        refine r_ixL (SqL.of (s2 _ _ hp)) (atI_nat (by rw [List.getElem?_map, ho]; rfl)) ?_
        walk_at "rd"
        refine ⟨by show 8 ≤ sizeLine; decide, fun q1 n1 => ?_⟩
        have s3 := s2.trans (same_upd n1 (.lst [.int 128, .int 64, .int 32, .int 16, .int 8, .int 4, .int 2, .int 1]))
        have g3 := same_upd n1 (.lst [.int 128, .int 64, .int 32, .int 16, .int 8, .int 4, .int 2, .int 1]) _ _ g2
        have hq1 : upd H2 q1 (.lst [.int 128, .int 64, .int 32, .int 16, .int 8, .int 4, .int 2, .int 1]) q1 = some (.lst (p128.map V.int)) := upd_same
        generalize upd H2 q1 (.lst [.int 128, .int 64, .int 32, .int 16, .int 8, .int 4, .int 2, .int 1]) = H3 at s3 g3 hq1 ⊢
        walk_at "rd"
        rw [show (6 * (i : Int) + (j : Int)) % 8 = (((6 * i + j) % 8 : Nat) : Int) by omega]
        refine r_ixL (SqL.of hq1) (p128_get (Nat.mod_lt _ (by decide))) ?_
        have pp : (0 : Int) < 2 ^ (7 - (6 * i + j) % 8) := Int.pow_pos (by decide)
        have pq : (2 : Int) ^ (7 - (6 * i + j) % 8) ≤ 128 := by
          have : (2 : Int) ^ (7 - (6 * i + j) % 8) ≤ 2 ^ 7 := by exact_mod_cast Nat.pow_le_pow_right (n := 2) (by decide) (by omega)
          exact this
        refine r_I (C := CDiv) ⟨pp, by omega⟩ ?_
        walk_at "rd"
        refine ⟨by show 6 ≤ sizeLine; decide, fun q2 n2 => ?_⟩
        have s4 := s3.trans (same_upd n2 (.lst [.int 32, .int 16, .int 8, .int 4, .int 2, .int 1]))
        have g4 := same_upd n2 (.lst [.int 32, .int 16, .int 8, .int 4, .int 2, .int 1]) _ _ g3
        have hq2 : upd H3 q2 (.lst [.int 32, .int 16, .int 8, .int 4, .int 2, .int 1]) q2 = some (.lst (p32.map V.int)) := upd_same
        generalize upd H3 q2 (.lst [.int 32, .int 16, .int 8, .int 4, .int 2, .int 1]) = H4 at s4 g4 hq2 ⊢
        walk_at "rd"
        refine r_ixL (SqL.of hq2) (p32_get hj) ?_
        refine r_I (C := CMul) (.inl ⟨?_, ?_⟩) ?_
        · have := Int.emod_nonneg (o / 2 ^ (7 - (6 * i + j) % 8)) (show (2 : Int) ≠ 0 by decide)
          omega
        · have := Int.emod_lt_of_pos (o / 2 ^ (7 - (6 * i + j) % 8)) (show (0 : Int) < 2 by decide)
          omega
        walk_at "rd"
        have et : lb64 xs i (j + 1) = lb64 xs i j + o / 2 ^ (7 - (6 * i + j) % 8) % 2 * 2 ^ (5 - j) := by
          rw [lb_step]
          unfold tm64
          rw [ho]
        rw [et]
        exact ⟨_, _, rfl, s4, g4⟩
      · walk_at "rd"
        have et : lb64 xs i (j + 1) = lb64 xs i j := by
          rw [lb_step, show tm64 xs i j = 0 by unfold tm64; rw [List.getElem?_eq_none (by omega)], Int.add_zero]
        rw [et]
        exact ⟨_, _, rfl, s2, g2⟩
    · rintro σ H2 ⟨z1, z2, rfl, s2, g2⟩
      rw [show (6 : Int).toNat = 6 from rfl, hlb]
      walk_at "rd"
      refine ⟨tyL g2, ?_⟩
      walk_at "rd"
      refine ⟨rfl, ?_⟩
      obtain ⟨dc, q1, q2⟩ := dig_at hwr.1 hwr.2
      refine ⟨_, rfl, _, _, dc, rfl, rfl, dig_len, q1, ⟨_, rfl, rfl, ?_⟩⟩
      rw [q2]
      refine r_nil ?_
      refine r_app g2 (small1000 (by rw [List.length_map, List.length_take, List.length_map]; omega)) ?_
      refine ⟨_, _, _, _, rfl, same_away s2 n0, ?_⟩
      rw [upd_same, map_snoc, ints_step (i := i) (c := dg64 w) (by rw [List.getElem?_map, hw]; rfl)]
  · rintro σ H1 ⟨y1, y2, y3, y4, rfl, s1, g1⟩
    rw [Int.toNat_natCast, List.take_of_length_le (by rw [List.length_map]; omega)] at g1
    walk_at "rd"
    have ee := raw_enc xs
    refine r_while (fun m σ H' => ∃ t : Nat, σ = [some (.ref p), some (.ref l0), y1, y2, y3, y4] ∧ Same H H' ∧ H' l0 = some (.lst (((raw64 xs).map dg64 ++ List.replicate t 61).map V.int)) ∧ t + m = (4 - (raw64 xs).length % 4) % 4) ((4 - (raw64 xs).length % 4) % 4) ⟨0, rfl, s1, by rw [List.replicate_zero, List.append_nil]; exact g1, by omega⟩ ?_
    rintro m σ H2 ⟨t, rfl, s2, g2, ht⟩
    walk_at "rd"
    refine ⟨l0, _, rfl, .inl (SqL.of g2), ?_⟩
    rw [List.length_map, List.length_append, List.length_map, List.length_replicate]
    walk_at "rd"
    refine r_iten (fun c => ?_) (fun c => ?_)
    · refine r_turn ?_
      walk_at "rd"
      refine ⟨tyL g2, ?_⟩
      walk_at "rd"
      refine r_app g2 (small1000 (by rw [List.length_map, List.length_append, List.length_map, List.length_replicate]; omega)) ?_
      refine ⟨m - 1, by omega, t + 1, rfl, same_away s2 n0, ?_, by omega⟩
      rw [upd_same, map_snoc, List.append_assoc, List.replicate_succ']
    · walk_at "rd"
      refine h l0 H2 n0 ?_ s2
      rw [g2, ee, show t = (4 - (raw64 xs).length % 4) % 4 by omega]
end

theorem eqv_ints (a b : List Int) : PyData.eqv (.list (a.map PyData.int)) (.list (b.map PyData.int)) = decide (a = b) := PySem.W.ked_eqvAll a b
/-- two rows of integers compared -/
theorem r_eqIL {K : PySem.W.Frag} {p q : Addr} {a b : List Int} {H : Hp} {Q : VK} (h1 : SqL K H p (a.map V.int)) (h2 : SqL K H q (b.map V.int)) (h : Q (.bl (decide (a = b))) H) : rEqD K (.ref p) (.ref q) H Q :=
  r_eqD (.lst h1 (dpa_ints _)) (.lst h2 (dpa_ints _)) (shaped_ints _) (shaped_ints _) (by rw [eqv_ints]; exact h)
theorem r_neIL {K : PySem.W.Frag} {p q : Addr} {a b : List Int} {H : Hp} {Q : VK} (h1 : SqL K H p (a.map V.int)) (h2 : SqL K H q (b.map V.int)) (h : Q (.bl (!decide (a = b))) H) : rNeD K (.ref p) (.ref q) H Q :=
  r_neD (.lst h1 (dpa_ints _)) (.lst h2 (dpa_ints _)) (shaped_ints _) (shaped_ints _) (by rw [eqv_ints]; exact h)
/-- a for over a text -/
theorem r_eachS {σ : St} {H : Hp} {n : St → Hp → Prop} {r : VK} {g : TG} {tb : TS} {z : Str} (Pv : Nat → St → Hp → Prop) (h0 : Pv 0 σ H)
    (hs : ∀ (i : Nat) (c : Nat) σ H, z.cps[i]? = some c → Pv i σ H → g (.str ⟨#[c]⟩) σ H fun σ2 H2 => tb ⟨Pv (i + 1), r, n, Pv (i + 1)⟩ σ2 H2) (hd : ∀ σ H, Pv z.cps.size σ H → n σ H) :
    ∃ W : Nat → Nat → St → Hp → Prop, (∃ m, W 0 m σ H) ∧ ∀ i m σ H, W i m σ H →
    ((Its z).stop i H ∧ n σ H) ∨ ((Its z).go i H ∧ ∃ N : St → Hp → Prop, (∀ σ' H', N σ' H' → ∃ m', m' < m ∧ W (i + 1) m' σ' H') ∧ ∀ x H', (Its z).yld i H x H' → g x σ H' fun σ2 H2 => tb ⟨N, r, n, N⟩ σ2 H2) := by
  refine r_each z.cps.size Pv h0 (fun i σ H hi p => ⟨hi, ?_⟩) fun σ H p => ⟨Nat.le_refl _, hd σ H p⟩
  rintro x _ ⟨rfl, c, hc, rfl⟩
  exact hs i c σ _ hc p
theorem r_itS {σ : St} {H : Hp} {te : TE} {R : It → Hp → Prop} (h : te σ H fun v H1 => ∃ x, v = .str x ∧ R (Its x) H1) : iStr te σ H R := h
def rLenK (K : Frg) : List V → Hp → VK → Prop := fun xs H Q => ∃ p ys, xs = [.ref p] ∧ (SqL K H p ys ∨ SqT K H p ys) ∧ Q (.int ys.length) H
def rListK (K : Frg) : List V → Hp → VK → Prop := fun xs H Q => ∃ p ys, xs = [.ref p] ∧ (SqL K H p ys ∨ SqT K H p ys) ∧ ∀ l, H l = none → Q (.ref l) (upd H l (.lst ys))
def rTupleK (K : Frg) : List V → Hp → VK → Prop := fun xs H Q => ∃ p ys, xs = [.ref p] ∧ ((SqL K H p ys ∧ ∀ l, H l = none → Q (.ref l) (upd H l (.tup ys))) ∨ (SqT K H p ys ∧ Q (.ref p) H))
theorem small4k {n : Nat} (h : n ≤ 4000) : n < sizeLine := Nat.lt_of_le_of_lt h (by decide)
theorem r_ifTF {b : Bool} {A B : Prop} (h1 : b = true → A) (h2 : b = false → B) : if b = true then A else B := by
  cases b with
  | true => exact h1 rfl
  | false => exact h2 rfl

/-! ### the law's own reading -/
abbrev s__law_full : Stmt := (top 16)
theorem sc__law_full : FnScope ["worths", "bits", "worth", "power", "octets", "k", "octet", "j"] ["worths"] (defScope s__law_full) := ⟨rfl, rfl, rfl, by decide +kernel, rfl, by decide +kernel, by decide +kernel⟩
abbrev s__law_stands : Stmt := (top 17)
theorem sc__law_stands : FnScope ["worths", "pads", "octet", "digit"] ["worths", "pads", "octet"] (defScope s__law_stands) := ⟨rfl, rfl, rfl, by decide +kernel, rfl, by decide +kernel, by decide +kernel⟩
def sp__law_full (K : Frg) : Sp := sp1 fun o H Q _ => ∃ p ws s, o = .ref p ∧ H p = some (.lst (ws.map V.int)) ∧ Rel64 ws s ∧ ws.length ≤ 400 ∧ ∀ q l z H', H q = none → H l = none → H' q = some (.lst [.ref l, .int z]) → H' l = some (.lst (s.oc.map V.int)) → (z = 0 ↔ s.rs = 0) → Same H H' → Q (.ref q) H'
def sp__law_stands (K : Frg) : Sp := sp3 fun o1 o2 o3 H Q _ => ∃ p ws s b, o1 = .ref p ∧ o2 = .int s.pd ∧ o3 = .int b ∧ H p = some (.lst (ws.map V.int)) ∧ Rel64 ws s ∧ ws.length ≤ 400 ∧ 0 ≤ b ∧ b ≤ 255 ∧ ∀ H', Same H H' → Q (.bl (take64 s b).1) H'
theorem p32_c {j : Nat} {c : Int} (h : p32[j]? = some c) : j < 6 ∧ c = 2 ^ (5 - j) := by
  rcases j with _ | _ | _ | _ | _ | _ | j
  · cases h; exact ⟨by decide, rfl⟩
  · cases h; exact ⟨by decide, rfl⟩
  · cases h; exact ⟨by decide, rfl⟩
  · cases h; exact ⟨by decide, rfl⟩
  · cases h; exact ⟨by decide, rfl⟩
  · cases h; exact ⟨by decide, rfl⟩
  · simp [p32] at h
theorem half_up {o : Int} {j : Nat} (h : j < 8) : o / 2 ^ (8 - j) * 2 + o / 2 ^ (7 - j) % 2 = o / 2 ^ (8 - (j + 1)) := by
  rcases j with _ | _ | _ | _ | _ | _ | _ | _ | j
  · show o / 256 * 2 + o / 128 % 2 = o / 128; omega
  · show o / 128 * 2 + o / 64 % 2 = o / 64; omega
  · show o / 64 * 2 + o / 32 % 2 = o / 32; omega
  · show o / 32 * 2 + o / 16 % 2 = o / 16; omega
  · show o / 16 * 2 + o / 8 % 2 = o / 8; omega
  · show o / 8 * 2 + o / 4 % 2 = o / 4; omega
  · show o / 4 * 2 + o / 2 % 2 = o / 2; omega
  · show o / 2 * 2 + o / 1 % 2 = o / 1; omega
  · omega
section
variable {P : Program} {w : World} {K : PySem.W.Frag} {mg : Str → Option Value} {base : Heap} {f : Addr} {fd : FuncData}
theorem ok__law_full (F : FunD K "_law_full" "_law_full" (defArgs s__law_full) (defBody s__law_full) (defScope s__law_full) [] [] (glAd "_law_full" K) fd) (m : mg "_law_full" = some (.ref (glAd "_law_full" K))) (nb : Nm K mg) : Cal P w K mg base 1 "_law_full" (sp__law_full K) [] := by
  refine calD F m sc__law_full (fun _ _ _ _ _ _ us hl => match us, hl with | [_], _ => rfl) len1 (fun cdv A outer s H vs Q E hr h => ⟨_, (pss_cons (ps_set (i := 1) sc__law_full.nd rfl (Or.inl rfl) (pe_lst pa_nil))
    (pss_cons (ps_for PassesOwn.never rfl (pi_list (pv 0)) (pg_name (i := 2) sc__law_full.nd rfl (Or.inl rfl))
    (pss_one (ps_for PassesOwn.never rfl (pi_list (pe_lst (pa_cons pe_int (pa_cons pe_int (pa_cons pe_int (pa_cons pe_int (pa_cons pe_int (pa_cons pe_int pa_nil)))))))) (pg_name (i := 3) sc__law_full.nd rfl (Or.inl rfl))
    (pss_one (ps_expr (pe_bm PySem.F.plainAttrs_list PySem.F.slot_list_append PySem.F.type_list_append mt_append (pv 1) (pa_cons (pe_op op_mod (pe_op op_fdiv (pv 2) (pv 3)) pe_int) pa_nil)))))))
    (pss_cons (ps_set (i := 4) sc__law_full.nd rfl (Or.inl rfl) (pe_lst pa_nil))
    (pss_cons (ps_for PassesOwn.never rfl (pi_range1 rfl nb.range (pa_cons (pe_op op_fdiv (pe_callB call_len_seq (by rfl) nb.len PySem.boot_len (pa_cons (pv 1) pa_nil)) pe_int) pa_nil)) (pg_name (i := 5) sc__law_full.nd rfl (Or.inl rfl))
    (pss_cons (ps_set (i := 6) sc__law_full.nd rfl (Or.inl rfl) pe_int)
    (pss_cons (ps_for PassesOwn.never rfl (pi_range1 rfl nb.range (pa_cons pe_int pa_nil)) (pg_name (i := 7) sc__law_full.nd rfl (Or.inl rfl))
    (pss_one (ps_set (i := 6) sc__law_full.nd rfl (Or.inl rfl) (pe_op op_add (pe_op op_mul (pv 6) pe_int) (pe_ix ix_list (pv 1) (pe_op op_add (pe_op op_mul pe_int (pv 5)) (pv 7)) (fun _ _ => rfl))))))
    (pss_one (ps_expr (pe_bm PySem.F.plainAttrs_list PySem.F.slot_list_append PySem.F.type_list_append mt_append (pv 4) (pa_cons (pv 6) pa_nil)))))))
    (pss_one (ps_ret (pe_lst (pa_cons (pv 4) (pa_cons (pe_callB (cr_sum rfl) (by rfl) nb.sum (by decide +kernel) (pa_cons (pe_slice sl_list (pv 1) (po_some (pe_op op_mul pe_int (pe_op op_fdiv (pe_callB call_len_seq (by rfl) nb.len PySem.boot_len (pa_cons (pv 1) pa_nil)) pe_int))) po_none) pa_nil)) pa_nil))))))))), ?_⟩)
  obtain ⟨_, rfl, p, ws, s, rfl, hp, R, hn, h⟩ := h
  walk_at "rd"
  refine ⟨Nat.zero_le _, fun l0 n0 => ?_⟩
  have s0 := same_upd n0 (.lst [])
  walk_at "rd"
  refine ⟨p, rfl, ⟨_, SqL.of (s0 _ _ hp)⟩, r_eachL (xs := ws.map V.int) (fun i σ H' => ∃ y1 y2, σ = [some (.ref p), some (.ref l0), y1, y2, none, none, none, none] ∧ Same H H' ∧ H' l0 = some (.lst ((bitsW (ws.take i)).map V.int))) ⟨none, none, rfl, s0, upd_same⟩ ?_ ?_ ?_⟩
  · rintro i σ H' ⟨y1, y2, rfl, s1, g1⟩
    exact SqL.of (s1 _ _ hp)
  · rintro i x σ H1 hx ⟨y1, y2, rfl, s1, g1⟩
    obtain ⟨c, hi, rfl, e⟩ := ints_get hx
    have hil := (List.getElem?_eq_some_iff.mp hi).1
    walk_at "rd"
    refine ⟨by show 6 ≤ sizeLine; decide, fun q1 n1 => ?_⟩
    have s2 := s1.trans (same_upd n1 (.lst [.int 32, .int 16, .int 8, .int 4, .int 2, .int 1]))
    have g2 := same_upd n1 (.lst [.int 32, .int 16, .int 8, .int 4, .int 2, .int 1]) _ _ g1
    have hq1 : upd H1 q1 (.lst [.int 32, .int 16, .int 8, .int 4, .int 2, .int 1]) q1 = some (.lst (p32.map V.int)) := upd_same
    have nq := ne_of_none g1 n1
    generalize upd H1 q1 (.lst [.int 32, .int 16, .int 8, .int 4, .int 2, .int 1]) = H2 at s2 g2 hq1 ⊢
    refine ⟨q1, rfl, ⟨_, SqL.of hq1⟩, r_eachL (xs := p32.map V.int) (fun j σ H' => ∃ y, σ = [some (.ref p), some (.ref l0), some (.int c), y, none, none, none, none] ∧ Same H H' ∧ H' q1 = some (.lst (p32.map V.int)) ∧ H' l0 = some (.lst ((bitsW (ws.take i) ++ (bn 6 c).take j).map V.int))) ⟨y2, rfl, s2, hq1, by rw [List.take_zero, List.append_nil]; exact g2⟩ ?_ ?_ ?_⟩
    · rintro j σ H' ⟨y, rfl, s3, h3, g3⟩
      exact SqL.of h3
    · rintro j x σ H3 hx ⟨y, rfl, s3, h3, g3⟩
      obtain ⟨d, hj, rfl, _⟩ := ints_get hx
      obtain ⟨hj6, rfl⟩ := p32_c hj
      have pp : (0 : Int) < 2 ^ (5 - j) := Int.pow_pos (by decide)
      have pq : (2 : Int) ^ (5 - j) ≤ 32 := by
        have : (2 : Int) ^ (5 - j) ≤ 2 ^ 5 := by exact_mod_cast Nat.pow_le_pow_right (n := 2) (by decide) (by omega)
        exact this
      walk_at "rd"
      refine ⟨tyL g3, ?_⟩
      walk_at "rd"
      refine r_I (C := CDiv) ⟨pp, by omega⟩ ?_
      walk_at "rd"
      have bl := bitsW_len (ws.take i)
      rw [List.length_take] at bl
      refine r_app g3 (small4k (by rw [List.length_map, List.length_append, List.length_take, bn_len]; omega)) ?_
      refine ⟨_, rfl, same_away s3 n0, (upd_ne (Ne.symm nq)).trans h3, ?_⟩
      rw [upd_same, map_snoc, List.append_assoc, ints_step (i := j) (bn_get c 6 j hj6)]
    · rintro σ H3 ⟨y, rfl, s3, h3, g3⟩
      refine ⟨_, _, rfl, s3, ?_⟩
      rw [g3, e, bitsW_snoc, show (p32.map V.int).length = 6 from rfl, List.take_of_length_le (l := bn 6 c) (by rw [bn_len]; decide)]
  rintro σ H1 ⟨y1, y2, rfl, s1, g1⟩
  rw [List.length_map, List.take_length] at g1
  have hol := R.len
  have bl := bitsW_len ws
  walk_at "rd"
  refine ⟨Nat.zero_le _, fun o0 m0 => ?_⟩
  have s2 := s1.trans (same_upd m0 (.lst []))
  have g2 := same_upd m0 (.lst []) _ _ g1
  have hlo := ne_of_none g1 m0
  have m0' : H o0 = none := s1.free m0
  have ho2 : upd H1 o0 (.lst []) o0 = some (.lst []) := upd_same
  generalize upd H1 o0 (.lst []) = H2 at s2 g2 ho2 ⊢
  walk_at "rd"
  refine ⟨l0, _, rfl, .inl (SqL.of g2), ?_⟩
  rw [List.length_map, bl]
  walk_at "rd"
  rw [show ((6 * ws.length : Nat) : Int) / 8 = ((s.oc.length : Nat) : Int) by omega]
  refine r_turns (by omega) (by omega) (fun k σ H' => ∃ z1 z2 z3, σ = [some (.ref p), some (.ref l0), y1, y2, some (.ref o0), z1, z2, z3] ∧ Same H H' ∧ H' l0 = some (.lst ((bitsW ws).map V.int)) ∧ H' o0 = some (.lst ((s.oc.take k).map V.int))) ⟨none, none, none, rfl, s2, g2, ho2⟩ ?_ ?_
  · rintro k σ H3 hk ⟨z1, z2, z3, rfl, s3, g3, ho3⟩
    have hk : k < s.oc.length := by omega
    obtain ⟨o, hok⟩ : ∃ o, s.oc[k]? = some o := ⟨_, List.getElem?_eq_getElem hk⟩
    have hob := R.oc o (List.mem_of_getElem? hok)
    walk_at "rd"
    refine r_turns (by decide) (by decide) (fun j σ H' => H3 = H' ∧ ∃ z3, σ = [some (.ref p), some (.ref l0), y1, y2, some (.ref o0), some (.int (k : Nat)), some (.int (o / 2 ^ (8 - j))), z3]) ⟨rfl, z3, by rw [show o / 2 ^ (8 - 0) = 0 by show o / 256 = 0; omega]; rfl⟩ ?_ ?_
    · rintro j σ _ hj ⟨rfl, z3, rfl⟩
      have hj : j < 8 := by omega
      walk_at "rd"
      refine r_ixL (SqL.of g3) (v := .int (o / 2 ^ (7 - j) % 2)) ?_ ?_
      · rw [show 8 * (k : Int) + (j : Int) = ((8 * k + j : Nat) : Int) by omega]
        refine atI_nat ?_
        rw [List.getElem?_map, R.bits, oct_get _ s.oc k j o hok hj]
        rfl
      walk_at "rd"
      rw [half_up hj]
      exact ⟨rfl, _, rfl⟩
    · rintro σ _ ⟨rfl, z3, rfl⟩
      rw [show (8 : Int).toNat = 8 from rfl, show o / 2 ^ (8 - 8) = o by show o / 1 = o; omega]
      walk_at "rd"
      refine ⟨tyL ho3, ?_⟩
      walk_at "rd"
      refine r_app ho3 (small1000 (by rw [List.length_map, List.length_take]; omega)) ?_
      refine ⟨_, _, _, rfl, same_away s3 m0', (upd_ne hlo).trans g3, ?_⟩
      rw [upd_same, map_snoc, ints_step hok]
  rintro σ H3 ⟨z1, z2, z3, rfl, s3, g3, ho3⟩
  rw [Int.toNat_natCast, List.take_length] at ho3
  walk_at "rd"
  refine ⟨l0, _, rfl, .inl (SqL.of g3), ?_⟩
  rw [List.length_map, bl]
  walk_at "rd"
  rw [show 8 * (((6 * ws.length : Nat) : Int) / 8) = ((8 * s.oc.length : Nat) : Int) by omega]
  refine ⟨_, rfl, ?_⟩
  refine r_nopart ?_
  refine r_slI (ys := bn (6 * ws.length % 8) s.rs) g3 ?_ fun q4 H4 n4 g4 s4 => ?_
  · rw [cut_from, R.bits, List.drop_append_of_le_length (by rw [oct_len]; omega), List.drop_of_length_le (by rw [oct_len]; omega), List.nil_append]
  refine ⟨q4, _, rfl, SqL.of g4, ?_⟩
  walk_at "rd"
  refine ⟨by show 2 ≤ sizeLine; decide, fun q5 n5 => ?_⟩
  have s5 := same_upd n5 (.lst [.ref o0, .int (bn (6 * ws.length % 8) s.rs).sum])
  exact h q5 o0 _ _ ((s3.trans s4).free n5) m0' upd_same (s5 _ _ (s4 _ _ ho3)) (bn_sum0 _ _ (by omega) R.rs0 R.rs1) ((s3.trans s4).trans s5)
theorem dig_get {i c : Nat} (h : DIG64.cps[i]? = some c) : i < 64 ∧ V.int (((⟨#[c]⟩ : Str).cps.getD 0 0 : Nat) : Int) = V.int (dg64 (i : Nat)) := by
  have hi : i < 64 := by
    have := (Array.getElem?_eq_some_iff.mp h).1
    have e : DIG64.cps.size = 64 := by decide +kernel
    omega
  obtain ⟨d, q1, q2⟩ := dig_at (i := (i : Nat)) (by omega) (by omega)
  have e : atI DIG64.cps.toList (i : Nat) = some c := atI_nat (by rw [Array.getElem?_toList]; exact h)
  rw [e] at q1
  cases q1
  exact ⟨hi, q2⟩
theorem dg64_mem {i : Nat} (h : i < 64) : dg64 (i : Nat) ∈ digs64 := by
  have e : digs64[i]? = some (dg64 (i : Nat)) := by
    show digs64[i]? = some (digs64.getD ((i : Nat) : Int).toNat 0)
    rw [Int.toNat_natCast, List.getD_eq_getElem?_getD]
    have hl : i < digs64.length := h
    rw [List.getElem?_eq_getElem hl]
    rfl
  exact List.mem_of_getElem? e
theorem ok__law_stands (F : FunD K "_law_stands" "_law_stands" (defArgs s__law_stands) (defBody s__law_stands) (defScope s__law_stands) [] [] (glAd "_law_stands" K) fd) (m : mg "_law_stands" = some (.ref (glAd "_law_stands" K))) (nb : Nm K mg) (c__law_digits : Cal P w K mg base 1 "_law_digits" sp__law_digits []) (c__law_full : Cal P w K mg base 1 "_law_full" (sp__law_full K) []) : Cal P w K mg base 2 "_law_stands" (sp__law_stands K) [] := by
  refine calD F m sc__law_stands (fun _ _ _ _ _ _ us hl => match us, hl with | [_, _, _], _ => rfl) len3 (fun cdv A outer s H vs Q E hr h => ⟨_, (pss_cons (ps_if (pt_cmpR op_eq (pv 2) pe_int (nomark _))
    (pss_cons (ps_if (pt_cmpR op_ne (pe_ix ix_list (pe_c c__law_full hr (by decide) rfl (pa_cons (pv 0) pa_nil)) pe_int (fun _ _ => rfl)) pe_int (nomark _))
    (pss_one (ps_ret pe_bl))
    pss_nil)
    (pss_one (ps_ret (pe_or (pe_and (pe_cmpR op_eq (pe_op op_mod (pe_callB call_len_seq (by rfl) nb.len PySem.boot_len (pa_cons (pv 0) pa_nil)) pe_int) pe_int (nomark _)) (pe_one (pe_cmpR op_lt (pv 1) pe_int (nomark _)))) (pe_one (pe_and (pe_cmpR op_eq (pe_op op_mod (pe_callB call_len_seq (by rfl) nb.len PySem.boot_len (pa_cons (pv 0) pa_nil)) pe_int) pe_int (nomark _)) (pe_one (pe_cmpR op_eq (pv 1) pe_int (nomark _)))))))))
    pss_nil)
    (pss_cons (ps_for PassesOwn.never rfl (pi_str (pe_c0 c__law_digits hr (by decide) rfl)) (pg_name (i := 3) sc__law_stands.nd rfl (Or.inl rfl))
    (pss_one (ps_if (pt_cmpR op_eq (pe_callB call_ord (by rfl) nb.ord (by decide +kernel) (pa_cons (pv 3) pa_nil)) (pv 2) (nomark _))
    (pss_one (ps_ret (pe_cmpR op_eq (pv 1) pe_int (nomark _))))
    pss_nil)))
    (pss_one (ps_ret pe_bl)))), ?_⟩)
  obtain ⟨_, _, _, rfl, p, ws, s, b, rfl, rfl, rfl, hp, R, hn, hb0, hb1, h⟩ := h
  have hpd := R.pd
  have hdg := R.dg
  walk_at "rd"
  refine r_ite (fun c => ?_) (fun c => ?_)
  · have e : take64 s b = pad64 s := if_pos c
    rw [e] at h
    unfold pad64 at h
    walk_at "rd"
    refine ⟨_, rfl, p, ws, s, rfl, hp, R, hn, fun q l z H1 nq nl hq hl hz s1 => ?_⟩
    walk_at "rd"
    refine r_ixL (SqL.of hq) rfl ?_
    walk_at "rd"
    refine r_iten (fun c1 => ?_) (fun c1 => ?_)
    · rw [if_pos (.inr (.inr fun z' => c1 (hz.mpr z')))] at h
      walk_at "rd"
      exact h H1 s1
    have hr := hz.mp c1
    walk_at "rd"
    have yes : ¬ (s.dg % 4 < 2 ∨ s.dg % 4 + s.pd > 3 ∨ s.rs ≠ 0) → Q (.bl true) H1 := fun q => by
      rw [if_neg q] at h
      exact h H1 s1
    have no : (s.dg % 4 < 2 ∨ s.dg % 4 + s.pd > 3 ∨ s.rs ≠ 0) → Q (.bl false) H1 := fun q => by
      rw [if_pos q] at h
      exact h H1 s1
    clear h
    refine ⟨p, _, rfl, .inl (SqL.of (s1 _ _ hp)), ?_⟩
    rw [List.length_map]
    walk_at "rd"
    refine r_ite (fun c2 => ?_) (fun c2 => ?_)
    · walk_at "rd"
      refine r_ite (fun c3 => ?_) (fun c3 => ?_)
      · exact yes (by omega)
      · walk_at "rd"
        refine ⟨p, _, rfl, .inl (SqL.of (s1 _ _ hp)), ?_⟩
        rw [List.length_map]
        walk_at "rd"
        refine r_iteN (by omega) ?_
        exact no (by omega)
    · walk_at "rd"
      refine ⟨p, _, rfl, .inl (SqL.of (s1 _ _ hp)), ?_⟩
      rw [List.length_map]
      walk_at "rd"
      refine r_ite (fun c3 => ?_) (fun c3 => ?_)
      · walk_at "rd"
        by_cases c4 : s.pd = 0
        · rw [decide_eq_true c4]
          exact yes (by omega)
        · rw [decide_eq_false c4]
          exact no (by omega)
      · exact no (by omega)
  · walk_at "rd"
    have e : take64 s b = match worth64 b with
      | none => (false, s)
      | some w => if s.pd > 0 then (false, s) else (true, dig64 s w) := if_neg c
    rw [e] at h
    refine r_itS ?_
    walk_at "rd"
    refine ⟨rfl, _, rfl, r_eachS (fun i σ H' => H = H' ∧ (∀ j : Nat, j < i → dg64 (j : Nat) ≠ b) ∧ ∃ y, σ = [some (.ref p), some (.int s.pd), some (.int b), y]) ⟨rfl, fun j hj => absurd hj (Nat.not_lt_zero _), _, rfl⟩ ?_ ?_⟩
    · rintro i cc σ _ hi ⟨rfl, hj, y, rfl⟩
      obtain ⟨hi6, q2⟩ := dig_get hi
      walk_at "rd"
      refine ⟨_, rfl, rfl, ?_⟩
      rw [q2]
      walk_at "rd"
      refine r_ite (fun c1 => ?_) (fun c1 => ?_)
      · walk_at "rd"
        have hm := dg64_mem hi6
        rw [c1] at hm
        cases hw : worth64 b with
        | none => exact absurd hm (worth64_no hb0 hb1 hw)
        | some w =>
          rw [hw] at h
          have h : ∀ H', Same H H' → Q (.bl (if s.pd > 0 then (false, s) else (true, dig64 s w)).1) H' := h
          by_cases c2 : s.pd > 0
          · rw [if_pos c2] at h
            rw [decide_eq_false (by omega)]
            exact h H (Same.refl H)
          · rw [if_neg c2] at h
            rw [decide_eq_true (by omega)]
            exact h H (Same.refl H)
      · walk_at "rd"
        refine ⟨rfl, fun j hj2 => ?_, _, rfl⟩
        by_cases e : j = i
        · rw [e]
          exact c1
        · exact hj j (by omega)
    · rintro σ _ ⟨rfl, hj, y, rfl⟩
      have e64 : DIG64.cps.size = 64 := by decide +kernel
      rw [e64] at hj
      cases hw : worth64 b with
      | none =>
        rw [hw] at h
        walk_at "rd"
        exact h H (Same.refl H)
      | some w =>
        obtain ⟨w0, w1, hf, _⟩ := worth64_ok hb0 hb1 hw
        have hm : w.toNat ∈ (List.range 64).filter (fun j : Nat => decide (dg64 (j : Int) = b)) := by
          rw [hf]
          simp
        exact absurd (of_decide_eq_true (List.mem_filter.mp hm).2) (hj _ (by omega))
end

abbrev s_law : Stmt := (top 18)
theorem sc_law : FnScope ["script", "state", "k", "octets", "written", "rows", "at", "odd", "machine", "worths", "pads", "octet", "stands", "taken"] ["script"] (defScope s_law) := ⟨rfl, rfl, rfl, by decide +kernel, rfl, by decide +kernel, by decide +kernel⟩
theorem r_slX {K : PySem.W.Frag} {p : Addr} {zs : List Int} {lo hi : Option Int} {H : Hp} {Q : VK} (g : H p = some (.lst (zs.map V.int))) (h : ∀ (q : Addr) (ws : List Int) (H' : Hp), H q = none → H' q = some (.lst (ws.map V.int)) → (∀ x ∈ ws, x ∈ zs) → ws.length ≤ zs.length → Same H H' → Q (.ref q) H') : rSlL K (.ref p) lo hi H Q := by
  obtain ⟨ws, e1, e2, e3⟩ := cut_ints zs lo hi
  exact r_slI g e1 fun q H' n g' s => h q ws H' n g' e2 e3 s
theorem d_b64 {K : Frg} {H : Hp} {R : Addr → Hp → Prop} {E : XK} (h : ∀ a l H', H a = none → H l = none → B64At K H' a l b640 → Same H H' → R a H') : ∀ x dx, H x = none → H dx = none → dx ≠ x → sp_Base64___init__ K (.ref x :: ([] ++ [])) (upd (upd H dx (.own x)) x (.ins (C_Base64 K) dx [])) (fun v H2 => v = .non ∧ R x H2) E := by
  intro a dx ha hd hne
  refine ⟨_, rfl, a, dx, rfl, upd_same, fun l H' hl hla hU g => ⟨rfl, ?_⟩⟩
  have hl0 : H l = none := by
    rw [upd_ne hla] at hl
    by_cases e : l = dx
    · rw [e] at hl ⊢
      exact hd
    · rw [upd_ne e] at hl
      exact hl
  refine h a l H' ha hl0 hU fun b u z => ?_
  have h1 : b ≠ a := fun e => by
    rw [e, ha] at z
    cases z
  have h2 : b ≠ dx := fun e => by
    rw [e, hd] at z
    cases z
  exact g b u h1 (by rw [upd_ne h1, upd_ne h2]; exact z)
def Oc (z : Int) : Prop := 0 ≤ z ∧ z < 256
theorem enc64_oc {xs : List Int} (hx : ∀ x ∈ xs, 0 ≤ x ∧ x < 256) : ∀ z ∈ enc64 xs, Oc z := by
  intro z hz
  rw [raw_enc] at hz
  rcases List.mem_append.mp hz with q | q
  · obtain ⟨w, hw, rfl⟩ := List.mem_map.mp q
    obtain ⟨w0, w1⟩ := raw_range xs hx w hw
    obtain ⟨_, _, h1, h2⟩ := dg64_ok w0 w1
    exact ⟨h1, by omega⟩
  · rw [(List.mem_replicate.mp q).2]
    exact ⟨by decide, by decide⟩
theorem oc_app {a b : List Int} (h1 : ∀ x ∈ a, Oc x) (h2 : ∀ x ∈ b, Oc x) : ∀ x ∈ a ++ b, Oc x := fun x hx => (List.mem_append.mp hx).elim (h1 x) (h2 x)
theorem oc_one {v : Int} (h : Oc v) : ∀ x ∈ [v], Oc x := fun x hx => by
  have e : x = v := by simpa using hx
  rw [e]
  exact h
def menu64 : List V := [.int 61, .int 65, .int 47, .int 43, .int 57, .int 122, .int 64, .int 91, .int 96, .int 123, .int 58, .int 45, .int 95, .int 66]
theorem menu64_oc : ∀ v ∈ menu64, ∃ z, v = V.int z ∧ 0 ≤ z ∧ z ≤ 255 := by
  unfold menu64
  refine all_cons ⟨_, rfl, by decide, by decide⟩ (all_cons ⟨_, rfl, by decide, by decide⟩ (all_cons ⟨_, rfl, by decide, by decide⟩ (all_cons ⟨_, rfl, by decide, by decide⟩ (all_cons ⟨_, rfl, by decide, by decide⟩ (all_cons ⟨_, rfl, by decide, by decide⟩ (all_cons ⟨_, rfl, by decide, by decide⟩ (all_cons ⟨_, rfl, by decide, by decide⟩ (all_cons ⟨_, rfl, by decide, by decide⟩ (all_cons ⟨_, rfl, by decide, by decide⟩ (all_cons ⟨_, rfl, by decide, by decide⟩ (all_cons ⟨_, rfl, by decide, by decide⟩ (all_cons ⟨_, rfl, by decide, by decide⟩ (all_cons ⟨_, rfl, by decide, by decide⟩ all_nil)))))))))))))
theorem take_false {s : B64} {b : Int} (h : (take64 s b).1 = false) : (take64 s b).2 = s := by
  unfold take64 at h ⊢
  by_cases c : b = 61
  · rw [if_pos c] at h ⊢
    unfold pad64 at h ⊢
    split at h
    · rename_i q
      rw [if_pos q]
    · cases h
  · rw [if_neg c] at h ⊢
    cases hw : worth64 b with
    | none => rfl
    | some w =>
      rw [hw] at h
      have h : (if s.pd > 0 then (false, s) else (true, dig64 s w)).1 = false := h
      show (if s.pd > 0 then (false, s) else (true, dig64 s w)).2 = s
      by_cases q : s.pd > 0
      · rw [if_pos q]
      · rw [if_neg q] at h
        cases h
theorem take_pad1 {s : B64} (h : (take64 s 61).1 = true) : (take64 s 61).2 = { s with pd := s.pd + 1 } := by
  unfold take64 at h ⊢
  rw [if_pos rfl] at h ⊢
  unfold pad64 at h ⊢
  split at h
  · cases h
  · rename_i q
    rw [if_neg q]
theorem take_dig1 {s : B64} {b : Int} (h : (take64 s b).1 = true) (c : ¬ b = 61) : ∃ w, worth64 b = some w ∧ (take64 s b).2 = dig64 s w := by
  unfold take64 at h ⊢
  rw [if_neg c] at h ⊢
  cases hw : worth64 b with
  | none =>
    rw [hw] at h
    cases h
  | some w =>
    rw [hw] at h
    have h : (if s.pd > 0 then (false, s) else (true, dig64 s w)).1 = true := h
    refine ⟨w, rfl, ?_⟩
    show (if s.pd > 0 then (false, s) else (true, dig64 s w)).2 = _
    by_cases q : s.pd > 0
    · rw [if_pos q] at h
      cases h
    · rw [if_neg q]
theorem run_snoc (s : B64) (xs : List Int) (b : Int) : run64 s (xs ++ [b]) = (take64 (run64 s xs) b).2 := by
  unfold run64
  rw [List.foldl_append]
  rfl
theorem dig_pd (s : B64) (w : Int) : (dig64 s w).pd = s.pd := by
  unfold dig64
  split <;> rfl
section
variable {P : Program} {w : World} {K : PySem.W.Frag} {mg : Str → Option Value} {base : Heap} {f : Addr} {fd : FuncData}
theorem ok_law (F : FunD K "law" "law" (defArgs s_law) (defBody s_law) (defScope s_law) [] [] (glAd "law" K) fd) (nb : Nm K mg) (k_Base64 : Mak P w K mg base 1 "Base64" (C_Base64 K) (sp_Base64___init__ K) []) (p_Base64_is_whole : Prp P w K mg base 1 (C_Base64 K) "is_whole" (sp_Base64_is_whole K)) (m_Base64_take : Met P w K mg base 2 (C_Base64 K) "take" (sp_Base64_take K) []) (c_encode64 : Cal P w K mg base 2 "encode64" (sp_encode64 K) []) (c__law_state : Cal P w K mg base 2 "_law_state" (sp__law_state K) []) (c__law_next : Cal P w K mg base 1 "_law_next" (sp__law_next K) []) (c__law_digits : Cal P w K mg base 1 "_law_digits" sp__law_digits []) (c__law_encoded : Cal P w K mg base 2 "_law_encoded" (sp__law_encoded K) []) (c__law_full : Cal P w K mg base 1 "_law_full" (sp__law_full K) []) (c__law_stands : Cal P w K mg base 2 "_law_stands" (sp__law_stands K) []) : FnOk P w K mg base CX0 3 (glAd "law" K) fd ["script"] (sp_law K) := by
  refine fnD F sc_law len1 (fun cdv A outer s H vs Q E hr h => ⟨_, (pss_cons (ps_set (i := 1) sc_law.nd rfl (Or.inr rfl) (pe_c c__law_state hr (by decide) rfl (pa_cons (pv 0) (pa_cons pe_int pa_nil))))
    (pss_cons (ps_setLc (i := 3) (own := [("k", 2)]) (g := gName 2) (tt := tYes) rfl sc_law.nd rfl rfl (sw_true rfl rfl rfl (by decide +kernel)) (pi_range1 rfl nb.range (pa_cons (pe_c c__law_next hr (by decide) rfl (pa_cons (pv 1) (pa_cons (pe_ix ix_list (pe_lst (pa_cons pe_int (pa_cons pe_int pa_nil))) (pe_c c__law_next hr (by decide) rfl (pa_cons (pv 1) (pa_cons pe_int pa_nil))) (fun _ _ => rfl)) pa_nil))) pa_nil)) (blkOk_by (N := ["script", "state", "k", "octets", "written", "rows", "at", "odd", "machine", "worths", "pads", "octet", "stands", "taken"]) (sc := defScope s_law) (by decide +kernel)) (fun _ _ _ _ _ => pg_name (i := 2) sc_law.nd rfl (Or.inl rfl)) (fun _ _ _ _ _ => pts_nil) (fun _ _ _ _ _ => (pe_ix (show IxR _ (rIxL K) from ix_list) (pe_lst (pa_cons (pe_c c__law_next hr (by decide) rfl (pa_cons (pv 1) (pa_cons pe_int pa_nil))) (pa_cons pe_int (pa_cons pe_int pa_nil)))) (pe_c c__law_next hr (by decide) rfl (pa_cons (pv 1) (pa_cons pe_int pa_nil))) (fun _ _ => rfl))))
    (pss_cons (ps_set (i := 4) sc_law.nd rfl (Or.inl rfl) (pe_c c__law_encoded hr (by decide) rfl (pa_cons (pv 3) pa_nil)))
    (pss_cons (ps_if (PW.pt (pw_or (pt_cmpR (op_neD hr.units) (pe_c c_encode64 hr (by decide) rfl (pa_cons (pv 3) pa_nil)) (pv 4) (nomark _)) (pw_or1 (pt_cmpR (op_neD hr.units) (pe_c c_encode64 hr (by decide) rfl (pa_cons (pe_callTy call_tuple_of (by rfl) nb.tuple (by decide +kernel) (pa_cons (pv 3) pa_nil)) pa_nil)) (pv 4) (nomark _)))))
    (pss_one (ps_ret pe_bl))
    pss_nil)
    (pss_cons (ps_set (i := 5) sc_law.nd rfl (Or.inl rfl) (pe_callTy call_list_of (by rfl) nb.list (by decide +kernel) (pa_cons (pv 4) pa_nil)))
    (pss_cons (ps_for PassesOwn.never rfl (pi_range1 rfl nb.range (pa_cons (pe_c c__law_next hr (by decide) rfl (pa_cons (pv 1) (pa_cons pe_int pa_nil))) pa_nil)) (pg_name (i := 2) sc_law.nd rfl (Or.inl rfl))
    (pss_cons (ps_set (i := 6) sc_law.nd rfl (Or.inl rfl) (pe_c c__law_next hr (by decide) rfl (pa_cons (pv 1) (pa_cons (pe_op op_add (pe_callB call_len_seq (by rfl) nb.len PySem.boot_len (pa_cons (pv 5) pa_nil)) pe_int) pa_nil))))
    (pss_cons (ps_set (i := 7) sc_law.nd rfl (Or.inl rfl) (pe_ix ix_list (pe_lst (pa_cons (pe_c c__law_next hr (by decide) rfl (pa_cons (pv 1) (pa_cons pe_int pa_nil))) (pa_cons (pe_ix ix_list (pe_lst (pa_cons pe_int (pa_cons pe_int (pa_cons pe_int (pa_cons pe_int (pa_cons pe_int (pa_cons pe_int (pa_cons pe_int (pa_cons pe_int (pa_cons pe_int (pa_cons pe_int (pa_cons pe_int (pa_cons pe_int (pa_cons pe_int (pa_cons pe_int pa_nil))))))))))))))) (pe_c c__law_next hr (by decide) rfl (pa_cons (pv 1) (pa_cons pe_int pa_nil))) (fun _ _ => rfl)) pa_nil))) (pe_c c__law_next hr (by decide) rfl (pa_cons (pv 1) (pa_cons pe_int pa_nil))) (fun _ _ => rfl)))
    (pss_one (ps_set (i := 5) sc_law.nd rfl (Or.inl rfl) (pe_ix ix_list (pe_lst (pa_cons (pe_op op_cat (pe_op op_cat (pe_slice sl_list (pv 5) po_none (po_some (pv 6))) (pe_lst (pa_cons (pv 7) pa_nil))) (pe_slice sl_list (pv 5) (po_some (pv 6)) po_none)) (pa_cons (pe_op op_cat (pe_op op_cat (pe_slice sl_list (pv 5) po_none (po_some (pv 6))) (pe_lst (pa_cons (pv 7) pa_nil))) (pe_slice sl_list (pv 5) (po_some (pe_op op_add (pv 6) pe_int)) po_none)) (pa_cons (pe_op op_cat (pe_slice sl_list (pv 5) po_none (po_some (pv 6))) (pe_slice sl_list (pv 5) (po_some (pe_op op_add (pv 6) pe_int)) po_none)) pa_nil)))) (pe_c c__law_next hr (by decide) rfl (pa_cons (pv 1) (pa_cons pe_int pa_nil))) (fun _ _ => rfl)))))))
    (pss_cons (ps_set (i := 8) sc_law.nd rfl (Or.inl rfl) (pe_mk0 k_Base64 hr (by decide) rfl))
    (pss_cons (ps_set (i := 9) sc_law.nd rfl (Or.inl rfl) (pe_lst pa_nil))
    (pss_cons (ps_set (i := 10) sc_law.nd rfl (Or.inl rfl) pe_int)
    (pss_cons (ps_for PassesOwn.never rfl (pi_list (pv 5)) (pg_name (i := 11) sc_law.nd rfl (Or.inr rfl))
    (pss_cons (ps_set (i := 12) sc_law.nd rfl (Or.inl rfl) (pe_c c__law_stands hr (by decide) rfl (pa_cons (pv 9) (pa_cons (pv 10) (pa_cons (pv 11) pa_nil)))))
    (pss_cons (ps_set (i := 13) sc_law.nd rfl (Or.inl rfl) (pe_mt m_Base64_take hr (by decide) (pv 8) (pa_cons (pv 11) pa_nil)))
    (pss_cons (ps_if (PW.pt (pw_or (pt_not (pt_val (pe_callB call_isi (by rfl) nb.isinstance (by decide +kernel) (pa_cons (pv 13) (pa_cons (pe_bltn (v := .ty "bool") (u := .type "bool") (by rfl) nb.bool (by decide +kernel) rfl) pa_nil))))) (pw_or1 (pt_cmpR op_ne (pv 13) (pv 12) (nomark _)))))
    (pss_one (ps_ret pe_bl))
    pss_nil)
    (pss_cut (ps_if (PW.pt (pw_and (pt_val (pv 12)) (pw_and1 (pt_cmpR op_eq (pv 11) pe_int (nomark _)))))
    (pss_one (ps_set (i := 10) sc_law.nd rfl (Or.inl rfl) (pe_op op_add (pv 10) pe_int)))
    (pss_one (ps_if (pt_val (pv 12))
    (pss_one (ps_expr (pe_bm PySem.F.plainAttrs_list PySem.F.slot_list_append PySem.F.type_list_append mt_append (pv 9) (pa_cons (pe_ix ix_list (pe_lc (own := [("k", 2)]) (g := gName 2) rfl sc_law.nd (pi_range1 rfl nb.range (pa_cons pe_int pa_nil)) (blkOk_by (N := ["script", "state", "k", "octets", "written", "rows", "at", "odd", "machine", "worths", "pads", "octet", "stands", "taken"]) (sc := defScope s_law) (by decide +kernel)) (fun _ _ _ _ _ => pg_name (i := 2) sc_law.nd rfl (Or.inl rfl)) (fun _ _ _ _ _ => (pts_one (pt_cmpR op_eq (pe_callB call_ord (by rfl) nb.ord (by decide +kernel) (pa_cons (pe_ix ix_str (pe_c0 c__law_digits hr (by decide) rfl) (pv 2) (fun _ _ => rfl)) pa_nil)) (pv 11) (nomark _)))) (fun _ _ _ _ _ => (pv 2))) pe_int (fun _ _ => rfl)) pa_nil))))
    pss_nil)))
    (pss_one (ps_if (PW.pt (pw_or (pt_cmpR (op_neD hr.units) (pe_fld (pv 8) rfl) (pe_ix ix_list (pe_c c__law_full hr (by decide) rfl (pa_cons (pv 9) pa_nil)) pe_int (fun _ _ => rfl)) (nomark _)) (pw_or1 (pt_cmpR op_ne (pe_pr p_Base64_is_whole hr (by decide) (pv 8)) (pe_cmpR op_eq (pe_op op_mod (pe_op op_add (pe_callB call_len_seq (by rfl) nb.len PySem.boot_len (pa_cons (pv 9) pa_nil)) (pv 10)) pe_int) pe_int (nomark _)) (nomark _)))))
    (pss_one (ps_ret pe_bl))
    pss_nil)))))))
    (pss_one (ps_ret (pe_or (pe_cmpR (op_neD hr.units) (pv 5) (pv 4) (nomark _)) (pe_one (pe_and (pe_cmpR (op_eqD hr.units) (pe_fld (pv 8) rfl) (pv 3) (nomark _)) (pe_one (pe_cmpR op_is_bl (pe_pr p_Base64_is_whole hr (by decide) (pv 8)) pe_bl (nomark _)))))))))))))))))), ?_⟩)
  obtain ⟨_, rfl, sl, ns, rfl, hs, h⟩ := h
  walk_at "rd"
  refine ⟨_, _, rfl, sl, ns, _, rfl, rfl, hs, fun S H1 _ _ L1 _ _ => ?_⟩
  walk_at "rd"
  refine d_pickI 4 30 L1 rfl (by show 2 ≤ sizeLine; decide) (by decide) rfl (all_cons ⟨_, rfl, by omega, by omega⟩ (all_cons ⟨_, rfl, by omega, by omega⟩ all_nil)) fun m0 H2 i2 j2 _ L2 _ => ?_
  walk_at "rd"
  refine d_next L2 (by omega) fun n0 H3 i3 j3 L3 _ => ?_
  walk_at "rd"
  refine ⟨by omega, by omega, fun D nD => ?_⟩
  refine lc_range (fun i H' => LS K S H' ∧ ∃ cs : List Int, cs.length = i ∧ (∀ c ∈ cs, Oc c) ∧ H' D = some (.lst (cs.map V.int))) ⟨L3.new nD _, [], rfl, fun _ h => absurd h (by simp), upd_same⟩ ?_ ?_
  · rintro i H4 hi ⟨L4, cs, e1, e2, e3⟩
    walk_at "rd"
    refine ⟨rfl, ?_⟩
    walk_at "rd"
    refine d_next L4 (by decide) fun c H5 i5 j5 L5 k5 => ?_
    walk_at "rd"
    refine d_pickI 0 255 L5 rfl (by show 3 ≤ sizeLine; decide) (by decide) rfl (all_cons ⟨_, rfl, by omega, by omega⟩ (all_cons ⟨_, rfl, by omega, by omega⟩ (all_cons ⟨_, rfl, by omega, by omega⟩ all_nil))) fun z H6 i6 j6 _ L6 k6 => ?_
    refine ⟨_, k6 _ _ (L3.ne_free nD) (k5 _ _ (L3.ne_free nD) e3), small1000 (by rw [List.length_map]; omega), L3.away nD L6 _, cs ++ [z], by rw [List.length_append, e1]; rfl, oc_app e2 (oc_one ⟨i6, by omega⟩), ?_⟩
    rw [upd_same, map_snoc]
  rintro H4 ⟨L4, cs, e1, hcs, hD4⟩
  have DS := L3.ne_free nD
  have hcn : cs.length ≤ 29 := by omega
  clear e1 L3 nD L1 L2
  walk_at "rd"
  refine ⟨_, rfl, D, cs, rfl, hD4, by omega, hcs, fun q1 H5 n5 g5 s5 => ?_⟩
  have hD5 := s5 _ _ hD4
  have L5 := L4.same s5
  have q1S := L4.ne_free n5
  walk_at "rd"
  refine ⟨_, rfl, D, cs, rfl, .inl (SqL.of hD5), by omega, hcs, fun q2 H6 n6 g6 s6 => ?_⟩
  walk_at "rd"
  refine r_neIL (SqL.of g6) (SqL.of (s6 _ _ g5)) (r_bl (r_no rfl ?_))
  walk_at "rd"
  refine ⟨D, _, rfl, .inl ⟨SqL.of (s6 _ _ hD5), fun t nt => ?_⟩⟩
  have s7 := s6.trans (same_upd nt (.tup (cs.map V.int)))
  walk_at "rd"
  refine ⟨_, rfl, t, cs, rfl, .inr (SqT.of upd_same), by omega, hcs, fun q3 H8 n8 g8 s8 => ?_⟩
  have s8 := s7.trans s8
  walk_at "rd"
  refine r_neIL (SqL.of g8) (SqL.of (s8 _ _ g5)) (r_bl (r_no rfl ?_))
  walk_at "rd"
  have L8 := L5.same s8
  have hD8 := s8 _ _ hD5
  have g8 := s8 _ _ g5
  clear L4 L5 hD4 hD5 s5 g5 g6 s6 s7 s8 n6 nt n8 n5
  refine ⟨q1, _, rfl, .inl (SqL.of g8), fun r0 nr => ?_⟩
  have L9 := L8.new nr (.lst ((enc64 cs).map V.int))
  have hD9 := same_upd nr (.lst ((enc64 cs).map V.int)) _ _ hD8
  have g9 := same_upd nr (.lst ((enc64 cs).map V.int)) _ _ g8
  have r0S := L8.ne_free nr
  have hR9 : upd H8 r0 (.lst ((enc64 cs).map V.int)) r0 = some (.lst ((enc64 cs).map V.int)) := upd_same
  generalize upd H8 r0 (.lst ((enc64 cs).map V.int)) = H9 at L9 hD9 g9 hR9 ⊢
  clear L8 hD8 g8 nr
  walk_at "rd"
  refine d_next L9 (by decide) fun n1 H10 i10 j10 L10 k10 => ?_
  walk_at "rd"
  have hel := enc64_len cs
  refine r_turns (by omega) (by omega) (fun i σ H' => ∃ r zs y2 y6 y7, σ = [some (.ref sl), some (.ref S.a), y2, some (.ref D), some (.ref q1), some (.ref r), y6, y7, none, none, none, none, none, none] ∧ LS K S H' ∧ H' D = some (.lst (cs.map V.int)) ∧ H' q1 = some (.lst ((enc64 cs).map V.int)) ∧ r ≠ S.a ∧ H' r = some (.lst (zs.map V.int)) ∧ (∀ z ∈ zs, Oc z) ∧ zs.length ≤ 41 * 3 ^ i) ⟨r0, enc64 cs, _, _, _, rfl, L10, k10 _ _ DS hD9, k10 _ _ q1S g9, r0S, k10 _ _ r0S hR9, enc64_oc hcs, by omega⟩ ?_ ?_
  · rintro i σ H11 hi ⟨r, zs, y2, y6, y7, rfl, L11, hD11, g11, rS, hR11, hz, hzl⟩
    have p3 : 3 ^ i ≤ 3 := by
      have : i = 0 ∨ i = 1 := by omega
      rcases this with e | e <;> rw [e] <;> decide
    walk_at "rd"
    refine ⟨r, _, rfl, .inl (SqL.of hR11), ?_⟩
    rw [List.length_map]
    walk_at "rd"
    refine d_next L11 (by omega) fun at_ H12 i12 j12 L12 k12 => ?_
    walk_at "rd"
    refine d_next L12 (by decide) fun o1 H13 i13 j13 L13 k13 => ?_
    walk_at "rd"
    refine d_pickI (xs := menu64) 0 255 L13 rfl (by show 14 ≤ sizeLine; decide) (by decide) rfl menu64_oc fun o2 H14 i14 j14 _ L14 k14 => ?_
    walk_at "rd"
    refine d_pickI 0 255 L14 rfl (by show 2 ≤ sizeLine; decide) (by decide) rfl (all_cons ⟨_, rfl, by omega, by omega⟩ (all_cons ⟨_, rfl, by omega, by omega⟩ all_nil)) fun odd H15 i15 j15 _ L15 k15 => ?_
    have ko : Oc odd := ⟨i15, by omega⟩
    have kk := (k12.trans k13).trans (k14.trans k15)
    have hD15 := kk _ _ DS hD11
    have g15 := kk _ _ q1S g11
    have hR15 := kk _ _ rS hR11
    clear L11 L12 L13 L14 k12 k13 k14 k15 hD11 g11 hR11 kk
    walk_at "rd"
    refine ⟨_, rfl, r_slX hR15 fun a1 w1 H16 na1 ga1 d1 l1 s16 => ?_⟩
    walk_at "rd"
    refine ⟨by show 1 ≤ sizeLine; decide, fun b1 nb1 => ?_⟩
    have t1 := same_upd nb1 (.lst [.int odd])
    refine r_catI (ys := [odd]) (t1 _ _ ga1) upd_same (by show w1.length + 1 ≤ 1000; omega) fun c1 H17 nc1 gc1 s17 => ?_
    have s17 := (s16.trans t1).trans s17
    walk_at "rd"
    refine ⟨_, rfl, r_nopart (r_slX (s17 _ _ hR15) fun a2 w2 H18 na2 ga2 d2 l2 s18 => ?_)⟩
    refine r_catI (s18 _ _ gc1) ga2 (by rw [List.length_append]; show w1.length + 1 + w2.length ≤ 1000; omega) fun A H19 nA gA s19 => ?_
    have s19 := (s17.trans s18).trans s19
    clear s16 t1 s17 s18
    walk_at "rd"
    refine ⟨_, rfl, r_slX (s19 _ _ hR15) fun a3 w3 H20 na3 ga3 d3 l3 s20 => ?_⟩
    walk_at "rd"
    refine ⟨by show 1 ≤ sizeLine; decide, fun b2 nb2 => ?_⟩
    have t2 := same_upd nb2 (.lst [.int odd])
    refine r_catI (ys := [odd]) (t2 _ _ ga3) upd_same (by show w3.length + 1 ≤ 1000; omega) fun c2 H21 nc2 gc2 s21 => ?_
    have s21 := (s20.trans t2).trans s21
    walk_at "rd"
    refine ⟨_, rfl, r_nopart (r_slX (s21 _ _ (s19 _ _ hR15)) fun a4 w4 H22 na4 ga4 d4 l4 s22 => ?_)⟩
    refine r_catI (s22 _ _ gc2) ga4 (by rw [List.length_append]; show w3.length + 1 + w4.length ≤ 1000; omega) fun B H23 nB gB s23 => ?_
    have s23 := (s21.trans s22).trans s23
    have gA := s23 _ _ gA
    have s23 := s19.trans s23
    clear s19 s20 t2 s21 s22
    walk_at "rd"
    refine ⟨_, rfl, r_slX (s23 _ _ hR15) fun a5 w5 H24 na5 ga5 d5 l5 s24 => ?_⟩
    walk_at "rd"
    refine ⟨_, rfl, r_nopart (r_slX (s24 _ _ (s23 _ _ hR15)) fun a6 w6 H25 na6 ga6 d6 l6 s25 => ?_)⟩
    refine r_catI (s25 _ _ ga5) ga6 (by omega) fun C H26 nC gC s26 => ?_
    have s26 := (s24.trans s25).trans s26
    have gA := s26 _ _ gA
    have gB := s26 _ _ gB
    have s26 := s23.trans s26
    have L26 := L15.same s26
    have hD26 := s26 _ _ hD15
    have g26 := s26 _ _ g15
    clear L15 hD15 g15 hR15 s23 s24 s25
    have AS : A ≠ S.a := fun e => by
      obtain ⟨k, l, f, q⟩ := L26.st
      rw [e, q] at gA
      cases hw : w1 ++ [odd] ++ w2 with
      | nil => rw [hw] at gA; cases gA
      | cons x r => rw [hw] at gA; cases gA
    have BS : B ≠ S.a := fun e => by
      obtain ⟨k, l, f, q⟩ := L26.st
      rw [e, q] at gB
      cases hw : w3 ++ [odd] ++ w4 with
      | nil => rw [hw] at gB; cases gB
      | cons x r => rw [hw] at gB; cases gB
    have CS : C ≠ S.a := fun e => by
      obtain ⟨k, l, f, q⟩ := L26.st
      rw [e, q] at gC
      cases hw : w5 ++ w6 with
      | nil => rw [hw] at gC; cases gC
      | cons x r => rw [hw] at gC; cases gC
    walk_at "rd"
    refine d_pick (xs := [.ref A, .ref B, .ref C]) L26 rfl (by show 3 ≤ sizeLine; decide) (by decide) rfl fun v H27 hv L27 k27 => ?_
    have hD27 := k27 _ _ DS hD26
    have g27 := k27 _ _ q1S g26
    have sub : ∀ {ws : List Int}, (∀ x ∈ ws, x ∈ zs) → ∀ x ∈ ws, Oc x := fun h x hx => hz x (h x hx)
    have p4 : 41 * 3 ^ (i + 1) = 3 * (41 * 3 ^ i) := by rw [Nat.pow_succ]; omega
    have fin : ∀ (t : Addr) (ys : List Int), v = .ref t → t ≠ S.a → H26 t = some (.lst (ys.map V.int)) → (∀ x ∈ ys, Oc x) → ys.length ≤ 2 * zs.length + 1 → _ := fun t ys e1 e2 e3 e4 e5 =>
      (⟨t, ys, y2, at_, odd, e1, e2, k27 _ _ e2 e3, e4, by have : 0 < 3 ^ i := Nat.pow_pos (by decide); omega⟩ : ∃ (r' : Addr) (ys : List Int) (y2 : Option V) (a b : Int), v = .ref r' ∧ r' ≠ S.a ∧ H27 r' = some (.lst (ys.map V.int)) ∧ (∀ x ∈ ys, Oc x) ∧ ys.length ≤ 41 * 3 ^ (i + 1))
    have done : ∃ (r' : Addr) (ys : List Int) (y2 : Option V) (a b : Int), v = .ref r' ∧ r' ≠ S.a ∧ H27 r' = some (.lst (ys.map V.int)) ∧ (∀ x ∈ ys, Oc x) ∧ ys.length ≤ 41 * 3 ^ (i + 1) := by
      rcases List.mem_cons.mp hv with e | e
      · exact fin A _ e AS gA (oc_app (oc_app (sub d1) (oc_one ko)) (sub d2)) (by rw [List.length_append, List.length_append]; show w1.length + 1 + w2.length ≤ _; omega)
      rcases List.mem_cons.mp e with e | e
      · exact fin B _ e BS gB (oc_app (oc_app (sub d3) (oc_one ko)) (sub d4)) (by rw [List.length_append, List.length_append]; show w3.length + 1 + w4.length ≤ _; omega)
      · have e : v = .ref C := by simpa using e
        exact fin C _ e CS gC (oc_app (sub d5) (sub d6)) (by rw [List.length_append]; omega)
    obtain ⟨r', ys, _, _, _, rfl, f1, f2, f3, f4⟩ := done
    walk_at "rd"
    exact ⟨r', ys, _, _, _, rfl, L27, hD27, g27, f1, f2, f3, f4⟩
  · rintro σ H11 ⟨r, zs, y2, y6, y7, rfl, L11, hD11, g11, rS, hR11, hz, hzl⟩
    walk_at "rd"
    refine d_b64 fun m l H12 nm nl hB s12 => ?_
    have hzl : zs.length ≤ 369 := by
      have : 3 ^ n1.toNat ≤ 3 ^ 2 := Nat.pow_le_pow_right (by decide) (by omega)
      omega
    have hR12 := s12 _ _ hR11
    have hD12 := s12 _ _ hD11
    have g12 := s12 _ _ g11
    have rm := ne_of_none hR11 nm
    have rl := ne_of_none hR11 nl
    have Dm := ne_of_none hD11 nm
    have Dl := ne_of_none hD11 nl
    have qm := ne_of_none g11 nm
    have ql := ne_of_none g11 nl
    clear hR11 hD11 g11 s12 nm nl L11
    walk_at "rd"
    refine ⟨Nat.zero_le _, fun wl nwl => ?_⟩
    have t13 := same_upd nwl (.lst [])
    obtain ⟨dx0, hA0, hl0⟩ := id hB
    have mw := ne_of_none hA0 nwl
    have lw := ne_of_none hl0 nwl
    have rw_ := ne_of_none hR12 nwl
    have Dw := ne_of_none hD12 nwl
    have qw := ne_of_none g12 nwl
    have hB13 : B64At K (upd H12 wl (.lst [])) m l b640 := ⟨dx0, t13 _ _ hA0, t13 _ _ hl0⟩
    have hW13 : upd H12 wl (.lst []) wl = some (.lst (([] : List Int).map V.int)) := upd_same
    have hR13 := t13 _ _ hR12
    have hD13 := t13 _ _ hD12
    have g13 := t13 _ _ g12
    generalize upd H12 wl (.lst []) = H13 at hB13 hW13 hR13 hD13 g13 ⊢
    clear hB t13 hA0 hl0 nwl hR12 hD12 g12
    walk_at "rd"
    refine ⟨r, rfl, ⟨_, SqL.of hR13⟩, r_eachL (xs := zs.map V.int) (fun i σ H' => ∃ (ws : List Int) (s : B64) (y10 y11 y12 y13 : Option V), σ = [some (.ref sl), some (.ref S.a), y2, some (.ref D), some (.ref q1), some (.ref r), y6, y7, some (.ref m), some (.ref wl), some (.int s.pd), y11, y12, y13] ∧ s = run64 b640 (zs.take i) ∧ Rel64 ws s ∧ ws.length ≤ i ∧ B64At K H' m l s ∧ H' wl = some (.lst (ws.map V.int)) ∧ H' r = some (.lst (zs.map V.int)) ∧ H' D = some (.lst (cs.map V.int)) ∧ H' q1 = some (.lst ((enc64 cs).map V.int))) ⟨[], b640, none, _, _, _, rfl, rfl, Rel64.init, Nat.le_refl _, hB13, hW13, hR13, hD13, g13⟩ ?_ ?_ ?_⟩
    · rintro i σ H' ⟨ws, s, _, y11, y12, y13, rfl, _, _, _, _, _, hR', _⟩
      exact SqL.of hR'
    · rintro i x σ H14 hx ⟨ws, s, _, y11, y12, y13, rfl, hs', R, hwl, hB, hW, hR, hD, hq⟩
      obtain ⟨b, hi, rfl, et⟩ := ints_get hx
      have hb := hz b (List.mem_of_getElem? hi)
      have hil := (List.getElem?_eq_some_iff.mp hi).1
      walk_at "rd"
      refine ⟨_, _, _, rfl, wl, ws, s, b, rfl, rfl, rfl, hW, R, by omega, hb.1, by have := hb.2; omega, fun H15 s15 => ?_⟩
      obtain ⟨dx, hA, hl⟩ := id hB
      have hA15 := s15 _ _ hA
      have hl15 := s15 _ _ hl
      have hW15 := s15 _ _ hW
      have hR15 := s15 _ _ hR
      have hD15 := s15 _ _ hD
      have hq15 := s15 _ _ hq
      have Rl := R.len
      walk_at "rd"
      refine r_mget hA15 no_Base64_take ?_
      walk_at "rd"
      refine ⟨_, _, rfl, m, l, s, b, rfl, rfl, ⟨dx, hA15, hl15⟩, small1000 (by omega), by rw [R.dg]; omega, fun H16 hB16 b16 => ?_⟩
      have hW16 := b16 _ _ (Ne.symm mw) (Ne.symm lw) hW15
      have hR16 := b16 _ _ rm rl hR15
      have hD16 := b16 _ _ Dm Dl hD15
      have hq16 := b16 _ _ qm ql hq15
      clear hA15 hl15 hW15 hR15 hD15 hq15 hA hl b16 s15
      walk_at "rd"
      refine r_isi (b := true) (.base (.bl _)) (by decide +kernel) ?_
      walk_at "rd"
      refine r_neB (r_bl (r_no rfl ?_))
      walk_at "rd"
      have fin : ∀ (ws' : List Int) (y12 y13 : Option V) (H' : Hp), Rel64 ws' (take64 s b).2 → ws'.length ≤ i + 1 → B64At K H' m l (take64 s b).2 → H' wl = some (.lst (ws'.map V.int)) → H' r = some (.lst (zs.map V.int)) → H' D = some (.lst (cs.map V.int)) → H' q1 = some (.lst ((enc64 cs).map V.int)) → _ := fun ws' y12 y13 H' a1 a2 a3 a4 a5 a6 a7 =>
        (⟨ws', y12, y13, rfl, a1, a2, a3, a4, a5, a6, a7⟩ : ∃ (ws'' : List Int) (z12 z13 : Option V), [some (.ref sl), some (.ref S.a), y2, some (.ref D), some (.ref q1), some (.ref r), y6, y7, some (.ref m), some (.ref wl), some (.int (take64 s b).2.pd), some (.int b), y12, y13] = [some (.ref sl), some (.ref S.a), y2, some (.ref D), some (.ref q1), some (.ref r), y6, y7, some (.ref m), some (.ref wl), some (.int (take64 s b).2.pd), some (.int b), z12, z13] ∧ Rel64 ws'' (take64 s b).2 ∧ ws''.length ≤ i + 1 ∧ B64At K H' m l (take64 s b).2 ∧ H' wl = some (.lst (ws''.map V.int)) ∧ H' r = some (.lst (zs.map V.int)) ∧ H' D = some (.lst (cs.map V.int)) ∧ H' q1 = some (.lst ((enc64 cs).map V.int)))
      refine r_cut (fun σ' H' => ∃ (ws'' : List Int) (z12 z13 : Option V), σ' = [some (.ref sl), some (.ref S.a), y2, some (.ref D), some (.ref q1), some (.ref r), y6, y7, some (.ref m), some (.ref wl), some (.int (take64 s b).2.pd), some (.int b), z12, z13] ∧ Rel64 ws'' (take64 s b).2 ∧ ws''.length ≤ i + 1 ∧ B64At K H' m l (take64 s b).2 ∧ H' wl = some (.lst (ws''.map V.int)) ∧ H' r = some (.lst (zs.map V.int)) ∧ H' D = some (.lst (cs.map V.int)) ∧ H' q1 = some (.lst ((enc64 cs).map V.int))) ?_ ?_
      · walk_at "rd"
        refine r_ifTF (fun ht => ?_) (fun ht => ?_)
        · walk_at "rd"
          refine r_ite (fun c => ?_) (fun c => ?_)
          · subst c
            walk_at "rd"
            have e1 := take_pad1 ht
            have R2 : Rel64 ws (take64 s 61).2 := by rw [take_pad]; exact R.pad
            rw [show s.pd + 1 = (take64 s 61).2.pd by rw [e1]]
            exact fin ws _ _ H16 R2 (by omega) hB16 hW16 hR16 hD16 hq16
          · obtain ⟨w', hw, e1⟩ := take_dig1 ht c
            obtain ⟨w0, w1, hf, _⟩ := worth64_ok hb.1 (by have := hb.2; omega) hw
            walk_at "rd"
            refine r_ifTF (fun _ => ?_) (fun q => absurd (ht.symm.trans q) (by decide))
            walk_at "rd"
            refine ⟨tyL hW16, ?_⟩
            walk_at "rd"
            refine ⟨by decide, by decide, fun D2 nD2 => ?_⟩
            refine lc_range (fun j H' => Same H16 H' ∧ H' D2 = some (.lst (((List.range j).filter (fun j : Nat => decide (dg64 (j : Int) = b))).map fun j : Nat => V.int (j : Int)))) ⟨same_upd nD2 _, upd_same⟩ ?_ ?_
            · rintro j H17 hj ⟨s17, g17⟩
              have hj : j < 64 := hj
              rw [show (0 : Int) + (j : Int) = ((j : Nat) : Int) by omega]
              walk_at "rd"
              refine ⟨rfl, ?_⟩
              walk_at "rd"
              refine ⟨rfl, ?_⟩
              obtain ⟨dc, q1, q2⟩ := dig_at (i := (j : Nat)) (by omega) (by omega)
              refine ⟨_, rfl, _, _, dc, rfl, rfl, dig_len, q1, ⟨_, rfl, rfl, ?_⟩⟩
              rw [q2]
              refine r_var rfl ?_
              walk_at "rd"
              have er : (List.range (j + 1)).filter (fun j : Nat => decide (dg64 (j : Int) = b)) = (List.range j).filter (fun j : Nat => decide (dg64 (j : Int) = b)) ++ if dg64 (j : Int) = b then [j] else [] := by
                rw [List.range_succ, List.filter_append]
                congr 1
                by_cases q : dg64 (j : Int) = b
                · rw [if_pos q, List.filter_cons_of_pos (by exact decide_eq_true q)]
                  rfl
                · rw [if_neg q, List.filter_cons_of_neg (by simpa using q)]
                  rfl
              refine r_ite (fun q => ?_) (fun q => ?_)
              · walk_at "rd"
                have hfl : ((List.range j).filter (fun j : Nat => decide (dg64 (j : Int) = b))).length ≤ 64 := Nat.le_trans (List.length_filter_le _ _) (by rw [List.length_range]; omega)
                refine ⟨_, g17, small1000 (by rw [List.length_map]; omega), same_away s17 nD2, ?_⟩
                rw [upd_same, er, if_pos q, List.map_append]
                rfl
              · refine ⟨s17, ?_⟩
                rw [g17, er, if_neg q, List.append_nil]
            · rintro H17 ⟨s17, g17⟩
              have g17 : H17 D2 = some (.lst [.int w']) := by
                rw [g17, show ((64 : Int).toNat) = 64 from rfl, hf]
                show some (HO.lst [V.int ((w'.toNat : Nat) : Int)]) = _
                rw [show ((w'.toNat : Nat) : Int) = w' by omega]
              walk_at "rd"
              refine r_ixL (SqL.of g17) at0 ?_
              walk_at "rd"
              have hW17 := s17 _ _ hW16
              refine r_app hW17 (small1000 (by rw [List.length_map]; omega)) ?_
              obtain ⟨dx2, hA2, hl2⟩ := hB16
              rw [show s.pd = (take64 s b).2.pd by rw [e1, dig_pd]]
              refine fin (ws ++ [w']) _ _ _ (by rw [e1]; exact R.digit w0 w1) (by rw [List.length_append]; show ws.length + 1 ≤ i + 1; omega) ⟨dx2, (upd_ne mw).trans (s17 _ _ hA2), (upd_ne lw).trans (s17 _ _ hl2)⟩ (by rw [upd_same, map_snoc]) ((upd_ne rw_).trans (s17 _ _ hR16)) ((upd_ne Dw).trans (s17 _ _ hD16)) ((upd_ne qw).trans (s17 _ _ hq16))
        · walk_at "rd"
          refine r_ifTF (fun q => absurd (ht.symm.trans q) (by decide)) (fun _ => ?_)
          walk_at "rd"
          have e1 := take_false ht
          rw [e1] at hB16 fin ⊢
          exact fin ws _ _ H16 R (by omega) hB16 hW16 hR16 hD16 hq16
      · rintro σ' H17 ⟨ws', z12, z13, rfl, R', hl', hB', hW', hR', hD', hq'⟩
        obtain ⟨dx', hA', hll'⟩ := id hB'
        walk_at "rd"
        refine r_fget hA' nb.cl_Base64 nb.na_Base64_octets lk_Base64_octets ?_
        walk_at "rd"
        refine ⟨_, rfl, wl, ws', _, rfl, hW', R', by omega, fun q ql' z H18 nq nl hq8 hl8 hz8 s8' => ?_⟩
        walk_at "rd"
        refine r_ixL (SqL.of hq8) rfl ?_
        refine r_neIL (SqL.of (s8' _ _ hll')) (SqL.of hl8) ?_
        refine r_bl (r_no rfl ?_)
        walk_at "rd"
        refine r_pget (s8' _ _ hA') ?_
        refine ⟨_, rfl, m, l, _, rfl, ⟨dx', s8' _ _ hA', s8' _ _ hll'⟩, ?_⟩
        walk_at "rd"
        refine ⟨wl, _, rfl, .inl (SqL.of (s8' _ _ hW')), ?_⟩
        rw [List.length_map]
        walk_at "rd"
        refine r_neB (r_bl (r_no (by rw [R'.dg]) ?_))
        walk_at "rd"
        refine ⟨ws', (take64 s b).2, none, _, _, _, rfl, ?_, R', by omega, ⟨dx', s8' _ _ hA', s8' _ _ hll'⟩, s8' _ _ hW', s8' _ _ hR', s8' _ _ hD', s8' _ _ hq'⟩
        rw [et, run_snoc, ← hs']
    · rintro σ H14 ⟨ws, s, _, y11, y12, y13, rfl, hs', R, hwl, hB, hW, hR, hD, hq⟩
      rw [List.length_map, List.take_length] at hs'
      walk_at "rd"
      obtain ⟨dx, hA, hl⟩ := id hB
      refine r_neIL (SqL.of hR) (SqL.of hq) ?_
      refine ⟨_, rfl, ?_⟩
      refine r_iten (fun c => ?_) (fun c => ?_)
      · exact h H14
      · walk_at "rd"
        refine r_fget hA nb.cl_Base64 nb.na_Base64_octets lk_Base64_octets ?_
        walk_at "rd"
        obtain ⟨f1, f2⟩ := run_enc cs b640 hcs rfl rfl rfl
        rw [← c, ← hs'] at f1 f2
        have f1 : s.oc = cs := f1
        refine r_eqIL (SqL.of hl) (SqL.of hD) ?_
        rw [f1]
        refine ⟨_, rfl, ?_⟩
        refine r_itep rfl ?_
        walk_at "rd"
        refine r_pget hA ?_
        refine ⟨_, rfl, m, l, _, rfl, hB, ?_⟩
        walk_at "rd"
        refine ⟨_, true, rfl, rfl, ?_⟩
        rw [f2]
        exact h H14
end

def d_Base64___init__ : DefM := { ad := meAd "Base64" "__init__", nm := "__init__", ql := "Base64.__init__", pa := defArgs s_Base64___init__, bo := defBody s_Base64___init__, sc := defScope s_Base64___init__ }
def d_Base64_is_whole : DefM := { ad := prAd "Base64" "is_whole", nm := "is_whole", ql := "Base64.is_whole", pa := defArgs s_Base64_is_whole, bo := defBody s_Base64_is_whole, sc := defScope s_Base64_is_whole }
def d__worth_of : DefM := { ad := glAd "_worth_of", nm := "_worth_of", ql := "_worth_of", pa := defArgs s__worth_of, bo := defBody s__worth_of, sc := defScope s__worth_of }
def d_Base64__take_pad : DefM := { ad := meAd "Base64" "_take_pad", nm := "_take_pad", ql := "Base64._take_pad", pa := defArgs s_Base64__take_pad, bo := defBody s_Base64__take_pad, sc := defScope s_Base64__take_pad }
def d_Base64__take_digit : DefM := { ad := meAd "Base64" "_take_digit", nm := "_take_digit", ql := "Base64._take_digit", pa := defArgs s_Base64__take_digit, bo := defBody s_Base64__take_digit, sc := defScope s_Base64__take_digit }
def d_Base64_take : DefM := { ad := meAd "Base64" "take", nm := "take", ql := "Base64.take", pa := defArgs s_Base64_take, bo := defBody s_Base64_take, sc := defScope s_Base64_take }
def d__encode_group : DefM := { ad := glAd "_encode_group", nm := "_encode_group", ql := "_encode_group", pa := defArgs s__encode_group, bo := defBody s__encode_group, sc := defScope s__encode_group }
def d_encode64 : DefM := { ad := glAd "encode64", nm := "encode64", ql := "encode64", pa := defArgs s_encode64, bo := defBody s_encode64, sc := defScope s_encode64 }
def d__law_cell : DefM := { ad := glAd "_law_cell", nm := "_law_cell", ql := "_law_cell", pa := defArgs s__law_cell, bo := defBody s__law_cell, sc := defScope s__law_cell }
def d__law_numbers : DefM := { ad := glAd "_law_numbers", nm := "_law_numbers", ql := "_law_numbers", pa := defArgs s__law_numbers, bo := defBody s__law_numbers, sc := defScope s__law_numbers }
def d__law_state : DefM := { ad := glAd "_law_state", nm := "_law_state", ql := "_law_state", pa := defArgs s__law_state, bo := defBody s__law_state, sc := defScope s__law_state }
def d__law_next : DefM := { ad := glAd "_law_next", nm := "_law_next", ql := "_law_next", pa := defArgs s__law_next, bo := defBody s__law_next, sc := defScope s__law_next }
def d__law_digits : DefM := { ad := glAd "_law_digits", nm := "_law_digits", ql := "_law_digits", pa := defArgs s__law_digits, bo := defBody s__law_digits, sc := defScope s__law_digits }
def d__law_encoded : DefM := { ad := glAd "_law_encoded", nm := "_law_encoded", ql := "_law_encoded", pa := defArgs s__law_encoded, bo := defBody s__law_encoded, sc := defScope s__law_encoded }
def d__law_full : DefM := { ad := glAd "_law_full", nm := "_law_full", ql := "_law_full", pa := defArgs s__law_full, bo := defBody s__law_full, sc := defScope s__law_full }
def d__law_stands : DefM := { ad := glAd "_law_stands", nm := "_law_stands", ql := "_law_stands", pa := defArgs s__law_stands, bo := defBody s__law_stands, sc := defScope s__law_stands }
def d_law : DefM := { ad := glAd "law", nm := "law", ql := "law", pa := defArgs s_law, bo := defBody s_law, sc := defScope s_law }
def fn : List DefM := [d_Base64___init__, d_Base64_is_whole, d__worth_of, d_Base64__take_pad, d_Base64__take_digit, d_Base64_take, d__encode_group, d_encode64, d__law_cell, d__law_numbers, d__law_state, d__law_next, d__law_digits, d__law_encoded, d__law_full, d__law_stands, d_law]
def fa : List He.Fa := [.glo "_worth_of", .glo "_encode_group", .glo "encode64", .glo "_law_cell", .glo "_law_numbers", .glo "_law_state", .glo "_law_next", .glo "_law_digits", .glo "_law_encoded", .glo "_law_full", .glo "_law_stands", .glo "law", .free "divmod", .free "range", .free "len", .free "list", .free "abs", .free "int", .free "ord", .free "sum", .free "tuple", .free "isinstance", .free "bool", .int "PAD" 61, .str "DIGITS" "ABCDEFGHIJKLMNOPQRSTUVWXYZabcdefghijklmnopqrstuvwxyz0123456789+/", .cls "Base64", .glo "Base64", .mkr "Base64", .noat "Base64" "octets", .noat "Base64" "_digits", .noat "Base64" "_pads", .noat "Base64" "_rest", .meth "Base64" "take", .meth "Base64" "_take_pad", .meth "Base64" "_take_digit"]
def ex (K : Frg) : Bool := conB K "ROWS" (.tuple [.tuple [.int 65, .int 90, .int 0], .tuple [.int 97, .int 122, .int 26], .tuple [.int 48, .int 57, .int 52], .tuple [.int 43, .int 43, .int 62], .tuple [.int 47, .int 47, .int 63]]) && (prB K "Base64" "is_whole" && (digB K))
abbrev RR : PySem.W.OpenRow := PySem.W.OpenLaw.row PySem.Challenge.rw_formsalike_k08_base64
def loose : List PySem.Str := (["PAD", "DIGITS", "ROWS", "_worth_of", "Base64", "encode64", "_encode_group", "_law_cell", "_law_numbers", "_law_state", "_law_next", "_law_big", "_law_digits", "_law_encoded", "_law_full", "_law_stands"] : List PySem.Str)
abbrev hk : PySem.W.Hook := hookM 5 fa ex fn
def ob (s : PySem.W.SharedT) : AlM := obsM fa ex fn (frM 5 (HandSHeadRun.getT s))
theorem ob_eq (s : PySem.W.SharedT) : ob s = hk.obs s.abs := obsM_eq (HandSHeadRun.getT_eq s)
theorem run (w : World) : HandSHeadRun.RunEq RR (PySem.W.view RR.prog [18]) hk ob 6000 loose w := by
  intro os
  kernel_rfl
theorem facts {P : Program} {w : World} {K : PySem.W.Frag} {h : Heap} {mg : Str → Option Value} {f : Addr} (X : K.In h) (G : h.Ns mainGlobals mg) (hfa : mg ("law" : Str) = some (.ref f)) (c : SaysM fa ex fn K) :
    ∃ fd : FuncData, (∀ (s : Shared) (v : Value), BindsTo s fd ⟨[v], []⟩ [("script", v)]) ∧ ∀ base : Heap, K.In base → base.Ns mainGlobals mg → FnOk P w K mg base CX0 3 f fd ["script"] (sp_law K) := by
  obtain ⟨fd_Base64___init__, F_Base64___init__⟩ := c.def_ 0 (d := d_Base64___init__) rfl
  obtain ⟨fd_Base64_is_whole, F_Base64_is_whole⟩ := c.def_ 1 (d := d_Base64_is_whole) rfl
  obtain ⟨fd__worth_of, F__worth_of⟩ := c.def_ 2 (d := d__worth_of) rfl
  obtain ⟨fd_Base64__take_pad, F_Base64__take_pad⟩ := c.def_ 3 (d := d_Base64__take_pad) rfl
  obtain ⟨fd_Base64__take_digit, F_Base64__take_digit⟩ := c.def_ 4 (d := d_Base64__take_digit) rfl
  obtain ⟨fd_Base64_take, F_Base64_take⟩ := c.def_ 5 (d := d_Base64_take) rfl
  obtain ⟨fd__encode_group, F__encode_group⟩ := c.def_ 6 (d := d__encode_group) rfl
  obtain ⟨fd_encode64, F_encode64⟩ := c.def_ 7 (d := d_encode64) rfl
  obtain ⟨fd__law_cell, F__law_cell⟩ := c.def_ 8 (d := d__law_cell) rfl
  obtain ⟨fd__law_numbers, F__law_numbers⟩ := c.def_ 9 (d := d__law_numbers) rfl
  obtain ⟨fd__law_state, F__law_state⟩ := c.def_ 10 (d := d__law_state) rfl
  obtain ⟨fd__law_next, F__law_next⟩ := c.def_ 11 (d := d__law_next) rfl
  obtain ⟨fd__law_digits, F__law_digits⟩ := c.def_ 12 (d := d__law_digits) rfl
  obtain ⟨fd__law_encoded, F__law_encoded⟩ := c.def_ 13 (d := d__law_encoded) rfl
  obtain ⟨fd__law_full, F__law_full⟩ := c.def_ 14 (d := d__law_full) rfl
  obtain ⟨fd__law_stands, F__law_stands⟩ := c.def_ 15 (d := d__law_stands) rfl
  obtain ⟨fd_law, F_law⟩ := c.def_ 16 (d := d_law) rfl
  have m__worth_of := He.glo_ok X G (x := "_worth_of") (c.fact 0 rfl)
  have m__encode_group := He.glo_ok X G (x := "_encode_group") (c.fact 1 rfl)
  have m_encode64 := He.glo_ok X G (x := "encode64") (c.fact 2 rfl)
  have m__law_cell := He.glo_ok X G (x := "_law_cell") (c.fact 3 rfl)
  have m__law_numbers := He.glo_ok X G (x := "_law_numbers") (c.fact 4 rfl)
  have m__law_state := He.glo_ok X G (x := "_law_state") (c.fact 5 rfl)
  have m__law_next := He.glo_ok X G (x := "_law_next") (c.fact 6 rfl)
  have m__law_digits := He.glo_ok X G (x := "_law_digits") (c.fact 7 rfl)
  have m__law_encoded := He.glo_ok X G (x := "_law_encoded") (c.fact 8 rfl)
  have m__law_full := He.glo_ok X G (x := "_law_full") (c.fact 9 rfl)
  have m__law_stands := He.glo_ok X G (x := "_law_stands") (c.fact 10 rfl)
  have m_law := He.glo_ok X G (x := "law") (c.fact 11 rfl)
  have xx : ex K = true := c.more
  have x0 := (both xx).1
  replace xx := (both xx).2
  have x1 := (both xx).1
  replace xx := (both xx).2
  have x2 := xx
  have nb : Nm K mg := ⟨He.free_ok X G (c.fact 12 rfl),
    He.free_ok X G (c.fact 13 rfl),
    He.free_ok X G (c.fact 14 rfl),
    He.free_ok X G (c.fact 15 rfl),
    He.free_ok X G (c.fact 16 rfl),
    He.free_ok X G (c.fact 17 rfl),
    He.free_ok X G (c.fact 18 rfl),
    He.free_ok X G (c.fact 19 rfl),
    He.free_ok X G (c.fact 20 rfl),
    He.free_ok X G (c.fact 21 rfl),
    He.free_ok X G (c.fact 22 rfl),
    conM X G x0,
    conI X G (c.fact 23 rfl),
    conS X G (c.fact 24 rfl),
    He.cls_ok (c.fact 25 rfl),
    He.glo_ok X G (c.fact 26 rfl),
    He.mkr_ok (c.fact 27 rfl),
    He.noat_ok (c.fact 28 rfl),
    He.noat_ok (c.fact 29 rfl),
    He.noat_ok (c.fact 30 rfl),
    He.noat_ok (c.fact 31 rfl),
    prM x1,
    He.meth_ok (c.fact 32 rfl),
    He.meth_ok (c.fact 33 rfl),
    He.meth_ok (c.fact 34 rfl),
    He.eqO_ok x2⟩
  have e := hfa.symm.trans m_law
  cases e
  have b := FunD.bindsA (ps := ["script"]) F_law fun _ _ _ _ _ _ us hl => match us, hl with | [_], _ => rfl
  refine ⟨fd_law, fun s v => b s [v] rfl, fun base _ _ => ?_⟩
  have k_Base64 := ok_Base64___init__ (P := P) (w := w) (base := base) F_Base64___init__ nb
  have p_Base64_is_whole := ok_Base64_is_whole (P := P) (w := w) (base := base) F_Base64_is_whole nb
  have c__worth_of := ok__worth_of (P := P) (w := w) (base := base) F__worth_of m__worth_of nb
  have m_Base64__take_pad := ok_Base64__take_pad (P := P) (w := w) (base := base) F_Base64__take_pad nb
  have m_Base64__take_digit := ok_Base64__take_digit (P := P) (w := w) (base := base) F_Base64__take_digit nb
  have m_Base64_take := ok_Base64_take (P := P) (w := w) (base := base) F_Base64_take nb c__worth_of m_Base64__take_pad m_Base64__take_digit
  have c__encode_group := ok__encode_group (P := P) (w := w) (base := base) F__encode_group m__encode_group nb
  have c_encode64 := ok_encode64 (P := P) (w := w) (base := base) F_encode64 m_encode64 nb c__encode_group
  have c__law_cell := ok__law_cell (P := P) (w := w) (base := base) F__law_cell m__law_cell nb
  have c__law_numbers := ok__law_numbers (P := P) (w := w) (base := base) F__law_numbers m__law_numbers nb
  have c__law_state := ok__law_state (P := P) (w := w) (base := base) F__law_state m__law_state nb c__law_cell c__law_numbers
  have c__law_next := ok__law_next (P := P) (w := w) (base := base) F__law_next m__law_next nb
  have c__law_digits := ok__law_digits (P := P) (w := w) (base := base) F__law_digits m__law_digits nb
  have c__law_encoded := ok__law_encoded (P := P) (w := w) (base := base) F__law_encoded m__law_encoded nb c__law_digits
  have c__law_full := ok__law_full (P := P) (w := w) (base := base) F__law_full m__law_full nb
  have c__law_stands := ok__law_stands (P := P) (w := w) (base := base) F__law_stands m__law_stands nb c__law_digits c__law_full
  exact ok_law F_law nb k_Base64 p_Base64_is_whole m_Base64_take c_encode64 c__law_state c__law_next c__law_digits c__law_encoded c__law_full c__law_stands
end Fa
open PySem PySem.W PySem.Calls PyProof.Rows
theorem PySem.Challenge.cw_formsalike_k08_base64_holds : PySem.Challenge.rw_formsalike_k08_base64.Holds := by
  w_on; o_law
  refine HandSHeadRun.head_any (r := OpenLaw.row PySem.Challenge.rw_formsalike_k08_base64) (q := view (OpenLaw.row PySem.Challenge.rw_formsalike_k08_base64).prog [18]) (H := Fa.hk) (ob := Fa.ob) (M := 6000) (loose := Fa.loose) (d := HandSHeadRun.topDef (OpenLaw.row PySem.Challenge.rw_formsalike_k08_base64).prog 18) (kwd := []) Fa.ob_eq
    (by kernel_rfl) (fun s => by kernel_rfl) Fa.run (by kernel_rfl) (by kernel_rfl) (by kernel_rfl) (by rfl) (by first | assumption | decide +kernel) (by decide +kernel) ⟨rfl, rfl, rfl, rfl, rfl, by decide +kernel⟩ ?hw ?hc
  case hw => w_witness2
  case hc =>
    refine L2.walk_ofE (l := PySem.Challenge.rw_formsalike_k08_base64) (n := 63) (k := 3) (x := "script") (CX := L2.CX0) rfl (by decide) (by kernel_rfl) ⟨rfl, by decide, by decide⟩ ?F (fun _ _ _ _ z => z)
    intro w mg fa h Y G hmg0
    obtain ⟨K, KX, c⟩ := Y
    have hmg : mg ("law" : PySem.Str) = some (.ref fa) := by
      have e : (HandSHeadRun.topDef (OpenLaw.row PySem.Challenge.rw_formsalike_k08_base64).prog 18).name = ("law" : PySem.Str) := by kernel_rfl
      rw [← e]
      exact hmg0
    obtain ⟨fd, hb, hF⟩ := Fa.facts (P := (PySem.Challenge.rw_formsalike_k08_base64).prog) (w := w) KX G hmg c
    exact ⟨K, fd, Fa.sp_law K, KX, hb, fun H a ns hl _ hS => ⟨_, rfl, a, ns, rfl, hS, fun _ => rfl⟩, hF⟩
