import PyProof.Rows.All
import Wide.All
import OpenK.AllK
import Wide.FinOn
import KE.KStateDown
import KE.GoesMore
import KE.GoesEnum
import HandS.Iter
import HandS.TupLe
import HandS.Deep
import KE.KEqSeq
import KE.KEqDeep
import HandS.ForMost
import HandS.Exc
import HandS.More
import HandS.Wide
import HandS.Property
import HandS.WideBits
import HandS.Conv
import HandS.Codes
import HandS.IsInst
import HandS.Flow
import HandS.Defaults
import HandS.EndBits
import HandS.Head0
import HandS.Head1
import HandS.Head2
import HandS.HeadEnd
import HandS.HeadHook1
import HandS.HeadHook2
import HandS.NoneIn
import HandS.TupAny
import HandS.SortRule
import HandS.DictTup
import HandS.TupLe
import HandS.Deep
import HandS.StrMore
import HandS.RevTup
import HandS.Rev
import KE.KIntText
import PyProof.Rows.StrFirst
import HandS.Style
import KE.SortData
import HandS.TupMul
import PySem.Challenge.RW_formsalike_k27_ber_written
set_option Elab.async false
set_option linter.all false
set_option maxRecDepth 100000
set_option maxHeartbeats 4000000
namespace Fa
open PySem PySem.Spec L2 SX
open PyProof.Rows (envOfC)
open C8 (Cal pe_c Mak pe_mk Met pe_mt pe_mt0 pe_gc tCut pss_cut)
def top (i : Nat) : Stmt := PySem.Challenge.pw_formsalike_k27_ber_written.main.body.getD i (.Pass ⟨0, 0, 0, 0⟩)

/-! ### readings, a step each -/
section
variable {σ : St} {H : Hp} {n b c : St → Hp → Prop} {r : VK} {Q : VK} {K : PySem.W.Frag}
theorem r_seq {t u : TS} (h : t ⟨u ⟨n, r, b, c⟩, r, b, c⟩ σ H) : tSeq t u ⟨n, r, b, c⟩ σ H := h
theorem r_asg {te : TE} {g : TG} (h : te σ H fun x H1 => g x σ H1 n) : tAsg te g ⟨n, r, b, c⟩ σ H := h
theorem r_name {i : Nat} {v : V} {R : St → Hp → Prop} (h : R (σ.set i (some v)) H) : gName i v σ H R := h
theorem r_var {i : Nat} {v : V} (e : σ[i]? = some (some v)) (h : Q v H) : tVar i σ H Q := ⟨v, e, h⟩
theorem r_c {v : V} (h : Q v H) : tC v σ H Q := h
theorem r_op {r : R2} {ta tb : TE} (h : ta σ H fun x H1 => tb σ H1 fun y H2 => r x y H2 Q) : tOp r ta tb σ H Q := h
theorem r_un {r : V → Hp → VK → Prop} {ta : TE} (h : ta σ H fun x H1 => r x H1 Q) : tUn r ta σ H Q := h
theorem r_I0 {g : Int → Int → V} {i j : Int} (h : Q (g i j) H) : rI0 g (.int i) (.int j) H Q := ⟨i, j, rfl, rfl, h⟩
theorem r_I {C : Int → Int → Prop} {g : Int → Int → V} {i j : Int} (c : C i j) (h : Q (g i j) H) : rI C g (.int i) (.int j) H Q := ⟨i, j, rfl, rfl, c, h⟩
theorem r_U {g : Int → V} {i : Int} (h : Q (g i) H) : rU g (.int i) H Q := ⟨i, rfl, h⟩
theorem r_eqI {i j : Int} (h : Q (.bl (decide (i = j))) H) : rEq (.int i) (.int j) H Q := by
  have e : decide (V.int i = V.int j) = decide (i = j) := by simp
  exact ⟨rfl, by rw [e]; exact h⟩
theorem r_neI {i j : Int} (h : Q (.bl (!decide (i = j))) H) : rNe (.int i) (.int j) H Q := by
  have e : decide (V.int i = V.int j) = decide (i = j) := by simp
  exact ⟨rfl, by rw [e]; exact h⟩
theorem r_eqS {i j : Str} (h : Q (.bl (decide (i = j))) H) : rEq (.str i) (.str j) H Q := by
  have e : decide (V.str i = V.str j) = decide (i = j) := by simp
  exact ⟨rfl, by rw [e]; exact h⟩
theorem r_neS {i j : Str} (h : Q (.bl (!decide (i = j))) H) : rNe (.str i) (.str j) H Q := by
  have e : decide (V.str i = V.str j) = decide (i = j) := by simp
  exact ⟨rfl, by rw [e]; exact h⟩
theorem r_nil {R : List V → Hp → Prop} (h : R [] H) : tNil σ H R := h
theorem r_cons {te : TE} {t : TA} {R : List V → Hp → Prop} (h : te σ H fun x H1 => t σ H1 fun xs H2 => R (x :: xs) H2) : tCons te t σ H R := h
theorem r_drop {te : TE} (h : te σ H fun _ H1 => n σ H1) : tDrop te ⟨n, r, b, c⟩ σ H := h
theorem r_ret {te : TE} (h : te σ H r) : tRet te ⟨n, r, b, c⟩ σ H := h
theorem r_retN (h : r .non H) : tRetN ⟨n, r, b, c⟩ σ H := h
theorem r_next (h : n σ H) : tNext ⟨n, r, b, c⟩ σ H := h
theorem r_brk (h : b σ H) : tBreak ⟨n, r, b, c⟩ σ H := h
theorem r_if {e : TT} {t u : TS} (h : e σ H fun k H1 => if k = true then t ⟨n, r, b, c⟩ σ H1 else u ⟨n, r, b, c⟩ σ H1) : tIfS e t u ⟨n, r, b, c⟩ σ H := h
theorem r_ifE {c : TT} {ta tb : TE} (h : c σ H fun b H1 => if b = true then ta σ H1 Q else tb σ H1 Q) : tIf c ta tb σ H Q := h
theorem r_test {te : TE} {R : Bool → Hp → Prop} (h : te σ H fun x H' => ∃ k, x = .bl k ∧ R k H') : tTest te σ H R := h
theorem r_B {te : TE} {R : Bool → Hp → Prop} (h : te σ H fun x H' => ∃ k, x = .bl k ∧ R k H') : tB te σ H R := h
theorem r_bl {b : Bool} {R : Bool → Prop} (h : R b) : ∃ k, V.bl b = .bl k ∧ R k := ⟨b, rfl, h⟩
theorem r_and {t u : TT} {R : Bool → Hp → Prop} (h : t σ H fun c H1 => if c = true then u σ H1 R else R false H1) : tAnd t u σ H R := h
theorem r_or {t u : TT} {R : Bool → Hp → Prop} (h : t σ H fun c H1 => if c = true then R true H1 else u σ H1 R) : tOr t u σ H R := h
theorem r_not {t : TT} {R : Bool → Hp → Prop} (h : t σ H fun c H1 => R (!c) H1) : tNot t σ H R := h
theorem r_andV {ta tb : TE} (h : ta σ H fun x H1 => ∃ c, x = .bl c ∧ if c = true then tb σ H1 Q else Q (.bl false) H1) : tAndV ta tb σ H Q := h
theorem r_orV {ta tb : TE} (h : ta σ H fun x H1 => ∃ c, x = .bl c ∧ if c = true then Q (.bl true) H1 else tb σ H1 Q) : tOrV ta tb σ H Q := h
theorem r_notV {ta : TE} (h : ta σ H fun x H1 => ∃ c, x = .bl c ∧ Q (.bl (!c)) H1) : tNotV ta σ H Q := h
theorem r_chain {r r' : R2} {ta tb tc : TE} (h : ta σ H fun x H1 => tb σ H1 fun y H2 => r x y H2 fun z H3 => ∃ k, z = .bl k ∧ (if k = true then tc σ H3 fun w' H4 => r' y w' H4 Q else Q (.bl false) H3)) : tChain r r' ta tb tc σ H Q := h
theorem r_tup {t : TA} (h : t σ H fun xs H1 => xs.length ≤ sizeLine ∧ ∀ p, H1 p = none → Q (.ref p) (upd H1 p (.tup xs))) : tTup t σ H Q := h
theorem r_lst {t : TA} (h : t σ H fun xs H1 => xs.length ≤ sizeLine ∧ ∀ p, H1 p = none → Q (.ref p) (upd H1 p (.lst xs))) : tLst t σ H Q := h
theorem r_call {sp : Sp} {dvs : List V} {E : XK} {t : TA} (h : t σ H fun vs H1 => sp (vs ++ dvs) H1 Q E) : tCall sp dvs E t σ H Q := h
theorem r_CB {r : List V → Hp → VK → Prop} {t : TA} (h : t σ H fun vs H1 => r vs H1 Q) : tCB r t σ H Q := h
theorem r_ixL {p : Addr} {xs : List V} {i : Int} {v : V} (hs : SqL K H p xs) (e : atI xs i = some v) (h : Q v H) : rIxL K (.ref p) (.int i) H Q := ⟨p, xs, i, v, rfl, rfl, hs, e, h⟩
theorem r_ixT {p : Addr} {xs : List V} {i : Int} {v : V} (hs : SqT K H p xs) (e : atI xs i = some v) (h : Q v H) : rIxT K (.ref p) (.int i) H Q := ⟨p, xs, i, v, rfl, rfl, hs, e, h⟩
theorem r_ite {p : Prop} [Decidable p] {A B : Prop} (h1 : p → A) (h2 : ¬ p → B) : if decide p = true then A else B := by
  by_cases c : p
  · rw [if_pos (decide_eq_true c)]
    exact h1 c
  · rw [if_neg (by simp [c])]
    exact h2 c
theorem r_iten {p : Prop} [Decidable p] {A B : Prop} (h1 : ¬ p → A) (h2 : p → B) : if (!decide p) = true then A else B := by
  by_cases c : p
  · rw [if_neg (by simp [c])]
    exact h2 c
  · rw [if_pos (by simp [c])]
    exact h1 c
theorem r_itep {p : Prop} [Decidable p] {A B : Prop} (c : p) (h : A) : if decide p = true then A else B := by
  rw [if_pos (decide_eq_true c)]
  exact h
theorem r_iteN {p : Prop} [Decidable p] {A B : Prop} (c : ¬ p) (h : B) : if decide p = true then A else B := by
  rw [if_neg (by simp [c])]
  exact h
theorem r_iteF {A B : Prop} (h : B) : if false = true then A else B := by
  rw [if_neg Bool.false_ne_true]
  exact h
theorem r_iteT {A B : Prop} (h : A) : if true = true then A else B := by
  rw [if_pos rfl]
  exact h
theorem r_iteNT {A B : Prop} (h : B) : if (!true) = true then A else B := by
  rw [if_neg (by decide)]
  exact h
theorem r_iteNF {A B : Prop} (h : A) : if (!false) = true then A else B := by
  rw [if_pos (by decide)]
  exact h
theorem r_no {p : Prop} [Decidable p] {A B : Prop} (c : p) (h : B) : if (!decide p) = true then A else B := by
  rw [if_neg (by simp [c])]
  exact h
/-- a for over a written range(m) -/
theorem r_forN {v : Int} {g : TG} {tb : TS} (m : Nat) (e : v = (m : Int)) (hn : m < 2 ^ 62) (Pv : Nat → St → Hp → Prop) (h0 : Pv 0 σ H)
    (hs : ∀ (i : Nat) σ H, i < m → Pv i σ H → g (.int (i : Int)) σ H fun σ2 H2 => tb ⟨Pv (i + 1), r, n, Pv (i + 1)⟩ σ2 H2) (hd : ∀ σ H, Pv m σ H → n σ H) : tFor (iRng1 (tCons (tC (.int v)) tNil)) g tb ⟨n, r, b, c⟩ σ H := by
  subst e
  refine ⟨(m : Int), rfl, by omega, by omega, for_range Pv h0 (fun i σ H hi p => ?_) hd⟩
  rw [Int.zero_add]
  exact hs i σ H (by omega) p
/-- a for over range(v), v in a slot -/
theorem r_forV {v : Int} {k : Nat} {g : TG} {tb : TS} (e : σ[k]? = some (some (.int v))) (h1 : -(2 ^ 62) ≤ v) (h2 : v < 2 ^ 62) (Pv : Nat → St → Hp → Prop) (h0 : Pv 0 σ H)
    (hs : ∀ (i : Nat) σ H, (i : Int) < v → Pv i σ H → g (.int (i : Int)) σ H fun σ2 H2 => tb ⟨Pv (i + 1), r, n, Pv (i + 1)⟩ σ2 H2) (hd : ∀ σ H, Pv v.toNat σ H → n σ H) : tFor (iRng1 (tCons (tVar k) tNil)) g tb ⟨n, r, b, c⟩ σ H := by
  refine ⟨_, e, v, rfl, h1, h2, for_range Pv h0 (fun i σ H hi p => ?_) hd⟩
  rw [Int.zero_add]
  exact hs i σ H (by omega) p
/-- a for over range(e), the turns behind its reading -/
theorem r_for {wi : TI} {g : TG} {tb : TS} (h : wi σ H fun J H1 => ∃ W : Nat → Nat → St → Hp → Prop, (∃ m, W 0 m σ H1) ∧ ∀ i m σ H, W i m σ H →
    (J.stop i H ∧ n σ H) ∨ (J.go i H ∧ ∃ N : St → Hp → Prop, (∀ σ' H', N σ' H' → ∃ m', m' < m ∧ W (i + 1) m' σ' H') ∧ ∀ x H', J.yld i H x H' → g x σ H' fun σ2 H2 => tb ⟨N, r, n, N⟩ σ2 H2)) : tFor wi g tb ⟨n, r, b, c⟩ σ H := h
theorem r_rng1 {ta : TA} {R : It → Hp → Prop} (h : ta σ H fun vs H1 => ∃ j : Int, vs = [.int j] ∧ -(2 ^ 62) ≤ j ∧ j < 2 ^ 62 ∧ R (Itr 0 j.toNat) H1) : iRng1 ta σ H R := h
/-- .. the turns -/
theorem r_turns {j : Int} {g : TG} {tb : TS} (h1 : -(2 ^ 62) ≤ j) (h2 : j < 2 ^ 62) (Pv : Nat → St → Hp → Prop) (h0 : Pv 0 σ H)
    (hs : ∀ (i : Nat) σ H, (i : Int) < j → Pv i σ H → g (.int (i : Int)) σ H fun σ2 H2 => tb ⟨Pv (i + 1), r, n, Pv (i + 1)⟩ σ2 H2) (hd : ∀ σ H, Pv j.toNat σ H → n σ H) :
    -(2 ^ 62) ≤ j ∧ j < 2 ^ 62 ∧ ∃ W : Nat → Nat → St → Hp → Prop, (∃ m, W 0 m σ H) ∧ ∀ i m σ H, W i m σ H →
    ((Itr 0 j.toNat).stop i H ∧ n σ H) ∨ ((Itr 0 j.toNat).go i H ∧ ∃ N : St → Hp → Prop, (∀ σ' H', N σ' H' → ∃ m', m' < m ∧ W (i + 1) m' σ' H') ∧ ∀ x H', (Itr 0 j.toNat).yld i H x H' → g x σ H' fun σ2 H2 => tb ⟨N, r, n, N⟩ σ2 H2) := by
  refine ⟨h1, h2, for_range (D := ⟨n, r, fun _ _ => False, fun _ _ => False⟩) Pv h0 (fun i σ H hi p => ?_) hd⟩
  rw [Int.zero_add]
  exact hs i σ H (by omega) p
theorem r_while {e : TT} {tb : TS} (W : Nat → St → Hp → Prop) (m : Nat) (h0 : W m σ H)
    (hs : ∀ m σ H, W m σ H → e σ H fun k H1 => if k = true then ∃ N : St → Hp → Prop, (∀ σ' H', N σ' H' → ∃ m', m' < m ∧ W m' σ' H') ∧ tb ⟨N, r, n, N⟩ σ H1 else n σ H1) : tWhile e tb ⟨n, r, b, c⟩ σ H := ⟨W, ⟨m, h0⟩, hs⟩
theorem r_turn {tb : TS} {W : Nat → St → Hp → Prop} {m : Nat} (h : tb ⟨fun σ' H' => ∃ m', m' < m ∧ W m' σ' H', r, n, fun σ' H' => ∃ m', m' < m ∧ W m' σ' H'⟩ σ H) :
    ∃ N : St → Hp → Prop, (∀ σ' H', N σ' H' → ∃ m', m' < m ∧ W m' σ' H') ∧ tb ⟨N, r, n, N⟩ σ H := ⟨_, fun _ _ h => h, h⟩
end
/-! ### promises by the number of arguments -/
def sp1 (f : V → Hp → VK → XK → Prop) : Sp := fun vs H Q E => ∃ a, vs = [a] ∧ f a H Q E
def sp2 (f : V → V → Hp → VK → XK → Prop) : Sp := fun vs H Q E => ∃ a b, vs = [a, b] ∧ f a b H Q E
def sp3 (f : V → V → V → Hp → VK → XK → Prop) : Sp := fun vs H Q E => ∃ a b c, vs = [a, b, c] ∧ f a b c H Q E
def sp4 (f : V → V → V → V → Hp → VK → XK → Prop) : Sp := fun vs H Q E => ∃ a b c d, vs = [a, b, c, d] ∧ f a b c d H Q E
def sp5 (f : V → V → V → V → V → Hp → VK → XK → Prop) : Sp := fun vs H Q E => ∃ a b c d e, vs = [a, b, c, d, e] ∧ f a b c d e H Q E
def sp6 (f : V → V → V → V → V → V → Hp → VK → XK → Prop) : Sp := fun vs H Q E => ∃ a b c d e g, vs = [a, b, c, d, e, g] ∧ f a b c d e g H Q E
theorem len5 {f} (vs : List V) (H : Hp) (Q : VK) (E : XK) (h : sp5 f vs H Q E) : vs.length = 5 := by
  obtain ⟨_, _, _, _, _, rfl, _⟩ := h
  rfl
theorem len6 {f} (vs : List V) (H : Hp) (Q : VK) (E : XK) (h : sp6 f vs H Q E) : vs.length = 6 := by
  obtain ⟨_, _, _, _, _, _, rfl, _⟩ := h
  rfl
theorem len1 {f} (vs : List V) (H : Hp) (Q : VK) (E : XK) (h : sp1 f vs H Q E) : vs.length = 1 := by
  obtain ⟨_, rfl, _⟩ := h
  rfl
theorem len2 {f} (vs : List V) (H : Hp) (Q : VK) (E : XK) (h : sp2 f vs H Q E) : vs.length = 2 := by
  obtain ⟨_, _, rfl, _⟩ := h
  rfl
theorem len3 {f} (vs : List V) (H : Hp) (Q : VK) (E : XK) (h : sp3 f vs H Q E) : vs.length = 3 := by
  obtain ⟨_, _, _, rfl, _⟩ := h
  rfl
theorem len4 {f} (vs : List V) (H : Hp) (Q : VK) (E : XK) (h : sp4 f vs H Q E) : vs.length = 4 := by
  obtain ⟨_, _, _, _, rfl, _⟩ := h
  rfl
/-- a def's promise from its body -/
theorem calD {P : Program} {w : World} {K : PySem.W.Frag} {mg : Str → Option Value} {base : Heap} {x qual : Str} {params : Arguments} {body : List Stmt} {scope : Scope} {f : Addr} {fd : FuncData} {N ps : List Str} {k : Nat} {sp : Sp}
    (F : FunD K x qual params body scope [] [] f fd) (m : mg x = some (.ref f)) (S : FnScope N ps scope)
    (hb : ∀ (kV doc pm : Value) (an : Option Addr) (cdv ct : Value) (us : List Value), us.length = ps.length → bindArgs (PySem.W.fnOf x qual params body scope .none kV doc pm an cdv ct) ⟨us, []⟩ = pure (ps.zip us))
    (len : ∀ vs H Q E, sp vs H Q E → vs.length = ps.length)
    (hbody : ∀ (cdv : Value) (A : Around) (outer : List Env) (s : Shared) (H : Hp) (vs : List V) (Q : VK) (E : XK), Room k (A.deeper (envOfC qual scope s.heap.objs.size f cdv)) → sp vs H Q E →
      ∃ t, PSs (cxOf CX0 P w K mg base N qual scope f cdv A outer s H E).nox body t ∧ t { nx := fun _ H' => Q .non H', rt := Q } (start N vs) H) : Cal P w K mg base (k + 1) x sp [] :=
  ⟨f, fd, ps, [], F.ok S len fun cdv A outer s H vs Q E hr h => by
    obtain ⟨t, h1, h2⟩ := hbody cdv A outer s H vs Q E hr h
    exact ⟨t, h1.nox, h2⟩, m, F.kp, F.bindsN hb, .nil⟩
theorem fnD {P : Program} {w : World} {K : PySem.W.Frag} {mg : Str → Option Value} {base : Heap} {x qual : Str} {params : Arguments} {body : List Stmt} {scope : Scope} {f : Addr} {fd : FuncData} {N ps : List Str} {k : Nat} {sp : Sp}
    (F : FunD K x qual params body scope [] [] f fd) (S : FnScope N ps scope) (len : ∀ vs H Q E, sp vs H Q E → vs.length = ps.length)
    (hbody : ∀ (cdv : Value) (A : Around) (outer : List Env) (s : Shared) (H : Hp) (vs : List V) (Q : VK) (E : XK), Room k (A.deeper (envOfC qual scope s.heap.objs.size f cdv)) → sp vs H Q E →
      ∃ t, PSs (cxOf CX0 P w K mg base N qual scope f cdv A outer s H E).nox body t ∧ t { nx := fun _ H' => Q .non H', rt := Q } (start N vs) H) : FnOk P w K mg base CX0 (k + 1) f fd ps sp :=
  F.ok S len fun cdv A outer s H vs Q E hr h => by
    obtain ⟨t, h1, h2⟩ := hbody cdv A outer s H vs Q E hr h
    exact ⟨t, h1.nox, h2⟩
theorem conI {K : PySem.W.Frag} {h : Heap} {mg : Str → Option Value} {x : Str} {i : Int} (X : K.In h) (G : h.Ns mainGlobals mg) (c : (He.Fa.int x i).ok K = true) : ∃ u, mg x = some u ∧ RelV (.int i) u := by
  obtain ⟨t, e⟩ := He.int_ok X G c
  exact ⟨_, e, t, rfl⟩
theorem conS {K : PySem.W.Frag} {h : Heap} {mg : Str → Option Value} {x z : Str} (X : K.In h) (G : h.Ns mainGlobals mg) (c : (He.Fa.str x z).ok K = true) : ∃ u, mg x = some u ∧ RelV (.str z) u := by
  obtain ⟨t, e⟩ := He.str_ok X G c
  exact ⟨_, e, t, rfl⟩

/-! ### more readings -/
section
variable {σ : St} {H : Hp} {n b c : St → Hp → Prop} {r : VK} {Q : VK}
theorem r_cut {t u : TS} (Mid : St → Hp → Prop) (h1 : t ⟨Mid, r, b, c⟩ σ H) (h2 : ∀ σ' H', Mid σ' H' → u ⟨n, r, b, c⟩ σ' H') : tCut t u ⟨n, r, b, c⟩ σ H := ⟨Mid, h1, h2⟩
end
section
variable {σ : St} {H : Hp} {Q : VK} {K : PySem.W.Frag}
theorem r_yes {R : Bool → Hp → Prop} (h : R true H) : tYes σ H R := h
theorem r_isi {x : V} {c d : String} {b : Bool} (t : TyX K H x (.type d)) (e : kitB d c = some b) (h : Q (.bl b) H) : rIsi K [x, .ty c] H Q := ⟨x, .ty c, .type d, .type c, b, rfl, .ty c, t, kit_ty e, h⟩
theorem r_neD {x y : V} {d e : PyData} (h1 : Dp K H x d) (h2 : Dp K H y e) (s1 : SeqAt.shaped d = true) (s2 : SeqAt.shaped e = true) (h : Q (.bl (!PyData.eqv d e)) H) : rNeD K x y H Q := ⟨d, e, h1, h2, s1, s2, h⟩
theorem r_eqD {x y : V} {d e : PyData} (h1 : Dp K H x d) (h2 : Dp K H y e) (s1 : SeqAt.shaped d = true) (s2 : SeqAt.shaped e = true) (h : Q (.bl (PyData.eqv d e)) H) : rEqD K x y H Q := ⟨d, e, h1, h2, s1, s2, h⟩
theorem eqv_same {d : PyData} (s : SeqAt.shaped d = true) : PyData.eqv d d = true := SeqAt.eqv_refl d (Bool.and_eq_true_iff.mp s).1
/-- the same data on both sides -/
theorem r_neDs {x y : V} {d : PyData} (h1 : Dp K H x d) (h2 : Dp K H y d) (s : SeqAt.shaped d = true) (h : Q (.bl false) H) : rNeD K x y H Q := r_neD h1 h2 s s (by rw [eqv_same s]; exact h)
theorem r_eqDs {x y : V} {d : PyData} (h1 : Dp K H x d) (h2 : Dp K H y d) (s : SeqAt.shaped d = true) (h : Q (.bl true) H) : rEqD K x y H Q := r_eqD h1 h2 s s (by rw [eqv_same s]; exact h)
theorem r_rfl {v : V} {B : Prop} (h : B) : v = v ∧ B := ⟨rfl, h⟩
theorem r_gtup {p : Addr} {xs : List V} {n : Nat} {t : TGs} {R : St → Hp → Prop} (hs : SqT K H p xs) (hl : xs.length = n) (h : t xs σ H R) : gTup K n t (.ref p) σ H R := ⟨p, xs, rfl, hs, hl, h⟩
theorem r_gcons {t : TG} {u : TGs} {v : V} {vs : List V} {R : St → Hp → Prop} (h : t v σ H fun σ' H' => u vs σ' H' R) : gCons t u (v :: vs) σ H R := ⟨v, vs, rfl, h⟩
theorem r_gnil {R : St → Hp → Prop} (h : R σ H) : gNil [] σ H R := ⟨rfl, h⟩
theorem r_iteC {p : Prop} [Decidable p] {a b : Int} (h : Q (.int (if p then a else b)) H) : if decide p = true then tC (.int a) σ H Q else tC (.int b) σ H Q := by
  by_cases c : p
  · rw [if_pos (decide_eq_true c)]
    rw [if_pos c] at h
    exact h
  · rw [if_neg (by simp [c])]
    rw [if_neg c] at h
    exact h
theorem r_iteJ {p : Prop} [Decidable p] {ta tb : TE} (v : V) (h1 : p → ∀ R : VK, R v H → ta σ H R) (h2 : ¬ p → ∀ R : VK, R v H → tb σ H R) (h : Q v H) : if decide p = true then ta σ H Q else tb σ H Q := by
  by_cases c : p
  · rw [if_pos (decide_eq_true c)]
    exact h1 c Q h
  · rw [if_neg (by simp [c])]
    exact h2 c Q h
theorem r_max2 {p : Addr} {x y : Int} (hs : H p = some (.lst [.int x, .int y])) (h : Q (.int (max x y)) H) : rMax K [.ref p] H Q := by
  refine ⟨p, [x, y], rfl, SqL.of hs, by show 0 < 2; decide, fun m hm hle => ?_⟩
  have h1 := hle x (by simp)
  have h2 := hle y (by simp)
  have e : m = max x y := by
    rcases List.mem_cons.mp hm with e | e
    · omega
    · rcases List.mem_cons.mp e with e | e
      · omega
      · cases e
  rw [e]
  exact h
theorem r_lam1 {x : V} {R : V → Prop} (h : R x) : ∃ i, [x] = [i] ∧ R i := ⟨x, rfl, h⟩
theorem r_abs {x : Int} {R : Int → Prop} (h : R x) : ∃ i, [V.int x] = [V.int i] ∧ R i := ⟨x, rfl, h⟩
theorem r_int1 {x : Int} {R : Int → Prop} {B : Prop} (h : R x) : (∃ i, [V.int x] = [V.int i] ∧ R i) ∨ B := .inl ⟨x, rfl, h⟩
theorem r_bm {T : String} {r : V → List V → Hp → VK → Prop} {to : TE} {t : TA} (h : to σ H fun x H1 => tyV K T x H1 ∧ t σ H1 fun xs H2 => r x xs H2 Q) : tBM K T r to t σ H Q := h
theorem r_bm0 {T : String} {r : V → List V → Hp → VK → Prop} {to : TE} (h : to σ H fun x H1 => tyV K T x H1 ∧ r x [] H1 Q) : tBM0 K T r to σ H Q := h
theorem tyL {p : Addr} {xs : List V} (h : H p = some (.lst xs)) : tyV K "list" (.ref p) H := Or.inl ⟨rfl, _, SqL.of h⟩
theorem r_app {p : Addr} {xs : List V} {y : V} (h : H p = some (.lst xs)) (hl : xs.length < sizeLine) (q : Q .non (upd H p (.lst (xs ++ [y])))) : rAppend (.ref p) [y] H Q := ⟨p, xs, y, rfl, rfl, h, hl, q⟩
theorem r_sub {to ti : TE} {t : TSet} {v : V} {R : St → Hp → Prop} (h : to σ H fun o H1 => ti σ H1 fun i H2 => t o i v H2 fun H3 => R σ H3) : gSub to ti t v σ H R := h
theorem r_setL {p : Addr} {xs : List V} {k : Int} {j : Nat} {v : V} {R : Hp → Prop} (h : H p = some (.lst xs)) (e : ixN xs.length k = some j) (q : R (upd H p (.lst (xs.set j v)))) : rSetL (.ref p) (.int k) v H R := ⟨p, xs, k, j, rfl, rfl, h, e, q⟩
theorem r_lcR {ta : TA} {g : TG} {tt : TT} {te : TE} {vs : List Nat} (n : Nat) (hn : n < 2 ^ 62)
    (h : ∀ D, H D = none → ∃ W : Nat → Nat → Hp → Prop, (∃ m, W 0 m (upd H D (.lst []))) ∧ ∀ i m H, W i m H →
      ((Itr 0 n).stop i H ∧ Q (.ref D) H) ∨ ((Itr 0 n).go i H ∧ ∃ Nx : Hp → Prop, (∀ H', Nx H' → ∃ m', m' < m ∧ W (i + 1) m' H') ∧ ∀ x H', (Itr 0 n).yld i H x H' → g x (wipe σ vs) H' fun σ2 H2 => wipe σ2 vs = wipe σ vs ∧ tt σ2 H2 fun b H3 =>
        if b = true then te σ2 H3 fun y H4 => ∃ acc, H4 D = some (.lst acc) ∧ acc.length < sizeLine ∧ Nx (upd H4 D (.lst (acc ++ [y]))) else Nx H3))
    (he : ∀ R : List V → Hp → Prop, R [.int (n : Int)] H → ta σ H R) : tLc (iRng1 ta) g tt te vs σ H Q := by
  refine he _ ⟨(n : Int), rfl, by omega, by omega, ?_⟩
  have e : ((n : Int)).toNat = n := by omega
  rw [e]
  exact h
theorem same_upd {H : Hp} {p : Addr} (h : H p = none) (o : HO) : Same H (upd H p o) := fun b u q => by
  rw [upd_ne (ne_of_none q h)]
  exact q
theorem seq_upd {p b : Addr} {xs : List V} {o : HO} (h : SqL K H b xs) (hn : b ≠ p) : SqL K (upd H p o) b xs := by
  rcases h with (h | ⟨u, h⟩) | h
  · exact .inl (.inl ((upd_ne hn).trans h))
  · exact .inl (.inr ⟨u, (upd_ne hn).trans h⟩)
  · exact .inr h
theorem atI_ints {ns : List Int} {k : Int} (h0 : 0 ≤ k) (h1 : k < (ns.length : Int)) : ∃ v, v ∈ ns ∧ atI (ns.map V.int) k = some (.int v) := by
  have hk : k.toNat < ns.length := by omega
  have ek : k = ((k.toNat : Nat) : Int) := by omega
  have q : atI (ns.map V.int) ((k.toNat : Nat) : Int) = some (.int ns[k.toNat]) := atI_nat (by rw [List.getElem?_map, List.getElem?_eq_getElem hk] <;> rfl)
  rw [← ek] at q
  exact ⟨ns[k.toNat], List.getElem_mem hk, q⟩
end

/-! ### what the program's top leaves, looked at: its defs by their addresses, facts, written data; the statics too -/
abbrev Frg := PySem.W.Frag
/-- the getter of a property of a class -/
def prAd (C f : Str) (K : Frg) : Addr := match PySem.W.recIn K (He.ma K (He.ga K C) f) "property" with
  | some (.ref g :: _) => g
  | _ => 0
def glAd (x : Str) (K : Frg) : Addr := He.ga K x
def meAd (C m : Str) (K : Frg) : Addr := He.ma K (He.ga K C) m
structure DefM where
  ad : Frg → Addr
  nm : Str
  ql : Str
  pa : Arguments
  bo : List Stmt
  sc : Scope
  df : List He.Dv := []
def seeM (K : Frg) (d : DefM) : He.FnW := match K.lookup (d.ad K) with
  | some ⟨_, _, .func u, _⟩ => some (u.name, u.qualname, u.params, u.body, u.scope, u.globals, u.closure, u.builtins)
  | _ => none
def dueM (d : DefM) : He.FnW := some (d.nm, d.ql, d.pa, .stmts d.bo, d.sc, mainGlobals, [], builtinsNs)
def okM (K : Frg) (d : DefM) : Bool := PySem.W.keepIn K (.ref (d.ad K)) && (match K.lookup (d.ad K) with
  | some ⟨_, _, .func u, _⟩ => PySem.W.codeIn K u.code d.ql && He.dflB K u.defaults (d.df.map (He.Dv.v K))
  | _ => false)
theorem both {a b : Bool} (h : (a && b) = true) : a = true ∧ b = true := Bool.and_eq_true_iff.mp h
theorem funM {K : Frg} {d : DefM} (e : seeM K d = dueM d) (c : okM K d = true) : ∃ fd, FunD K d.nm d.ql d.pa d.bo d.sc (d.df.map (He.Dv.v K)) [] (d.ad K) fd := by
  have kp := (both c).1
  have c2 := (both c).2
  unfold seeM dueM at e
  split at c2
  · rename_i x1 x2 u x3 hL
    rw [hL] at e
    obtain ⟨n1, n2, n3, n4, n5, n6, n7, n8, n9, n10, n11, n12, n13, n14, n15⟩ := u
    simp only [Option.some.injEq, Prod.mk.injEq] at e
    obtain ⟨h1, h2, h3, h4, h5, h6, h7, h8⟩ := e
    subst h1 h2 h3 h4 h5 h6 h7 h8
    have k := both c2
    exact ⟨_, ⟨x1, x2, n8, n9, n10, n11, n12, n13, n14, x3, rfl, hL, k.1, He.dflB_ok k.2, .inl rfl⟩, kp⟩
  · cases c2
/-- written data: none, truths, integers, texts, lists and tuples of them -/
def datB (K : Frg) : Nat → Value → PyData → Bool
  | 0, _, _ => false
  | n + 1, u, d => match u, d with
    | .none, .none => true
    | .bool b, .bool c => b == c
    | .int i _, .int j => decide (i = j)
    | .str x _, .str y => decide (x = y)
    | .ref a, .tuple ds => (match K.lookup a with
      | some ⟨.type c, _, .seq its _, _⟩ => decide (c = "tuple") && (decide (its.size ≤ sizeLine) && datAll (fun u d => datB K n u d) its.toList ds)
      | _ => false)
    | _, _ => false
where datAll (f : Value → PyData → Bool) : List Value → List PyData → Bool
  | [], [] => true
  | u :: us, d :: ds => f u d && datAll f us ds
  | _, _ => false
theorem datAll_ok {K : Frg} {f : Value → PyData → Bool} (hf : ∀ u d, f u d = true → ∃ x, RelV x u ∧ ∀ H, Dp K H x d) : ∀ (us : List Value) (ds : List PyData), datB.datAll f us ds = true → ∃ xs, Vals xs us ∧ ∀ H, DpAll K H xs ds
  | [], [], _ => ⟨[], .nil, fun _ => .nil⟩
  | u :: us, d :: ds, h => by
    unfold datB.datAll at h
    obtain ⟨x, r, k⟩ := hf u d (both h).1
    obtain ⟨xs, rs, ks⟩ := datAll_ok hf us ds (both h).2
    exact ⟨x :: xs, .cons r rs, fun H => .cons (k H) (ks H)⟩
  | [], _ :: _, h => by cases h
  | _ :: _, [], h => by cases h
theorem datB_ok {K : Frg} : ∀ (n : Nat) (u : Value) (d : PyData), datB K n u d = true → ∃ x, RelV x u ∧ ∀ H, Dp K H x d
  | 0, _, _, h => by cases h
  | n + 1, u, d, h => by
    unfold datB at h
    match u, d, h with
    | .none, .none, _ => exact ⟨.non, rfl, fun _ => .non⟩
    | .bool b, .bool c, h =>
      have e : b = c := eq_of_beq h
      subst e
      exact ⟨.bl b, rfl, fun _ => .bl b⟩
    | .int i t, .int j, h =>
      have e : i = j := of_decide_eq_true h
      subst e
      exact ⟨.int i, ⟨t, rfl⟩, fun _ => .int i⟩
    | .str x t, .str y, h =>
      have e : x = y := of_decide_eq_true h
      subst e
      exact ⟨.str x, ⟨t, rfl⟩, fun _ => .str x⟩
    | .ref a, .tuple ds, h =>
      have h' : (match K.lookup a with
        | some ⟨.type c, _, .seq its _, _⟩ => decide (c = "tuple") && (decide (its.size ≤ sizeLine) && datB.datAll (fun u d => datB K n u d) its.toList ds)
        | _ => false) = true := h
      split at h'
      · rename_i c x2 its m x3 hL
        have h1 := (both h').1
        have h2 := (both (both h').2).1
        obtain ⟨xs, rs, ks⟩ := datAll_ok (datB_ok n) its.toList ds (both (both h').2).2
        exact ⟨.ref a, rfl, fun H => .tup (.inr ⟨_, its, m, hL, congrArg Value.type (of_decide_eq_true h1), rfl, of_decide_eq_true h2, rs⟩) (ks H)⟩
      · cases h'
/-- a name of the module that stands for such data -/
def conB (K : Frg) (x : Str) (d : PyData) : Bool := match PySem.W.nsIn K mainGlobals x with
  | some (some u) => datB K 8 u d
  | _ => false
theorem conM {K : Frg} {h : Heap} {mg : Str → Option Value} {x : Str} {d : PyData} (X : K.In h) (G : h.Ns mainGlobals mg) (c : conB K x d = true) : ∃ v u, mg x = some u ∧ RelV v u ∧ ∀ H, Dp K H v d := by
  unfold conB at c
  split at c
  · rename_i u hL
    obtain ⟨v, r, k⟩ := datB_ok 8 u d c
    exact ⟨v, u, PySem.W.mg_of X G hL, r, k⟩
  · cases c
/-- a property of a class -/
def prB (K : Frg) (C f : Str) : Bool := He.eqO (PySem.W.findIn K (.ref (He.ga K C)) f) (some (some (.ref (He.ma K (He.ga K C) f)))) &&
  (He.eqO (PySem.W.specialIn K (.ref (He.ma K (He.ga K C) f)) "__get__") (some (some (.builtin "property.__get__"))) && (decide (PySem.W.takesIn K (.ref (He.ma K (He.ga K C) f)) = some true) &&
  (match PySem.W.recIn K (He.ma K (He.ga K C) f) "property" with
    | some (.ref _ :: _) => true
    | _ => false)))
theorem prM {K : Frg} {C f : Str} (h : prB K C f = true) : PropOf K (He.ga K C) f (He.ma K (He.ga K C) f) (prAd C f K) := by
  obtain ⟨h1, h⟩ := both h
  obtain ⟨h2, h⟩ := both h
  obtain ⟨h3, h4⟩ := both h
  refine ⟨He.eqO_ok h1, He.eqO_ok h2, of_decide_eq_true h3, ?_⟩
  unfold prAd
  split at h4
  · rename_i g r hL
    rw [hL]
    exact ⟨r, rfl⟩
  · cases h4
/-- no limit of digits is set -/
def digB (K : Frg) : Bool := PySem.W.nsOkIn K cStatics && He.eqO (PySem.W.nsIn K cStatics "sys.int_max_str_digits") (some none)
def DigK (K : Frg) : Prop := PySem.W.nsOkIn K cStatics = true ∧ PySem.W.nsIn K cStatics "sys.int_max_str_digits" = some none
theorem digK_ok {K : Frg} (h : digB K = true) : DigK K := ⟨(both h).1, He.eqO_ok (both h).2⟩
/-! the Hook -/
abbrev AlM : Type := Bool × List He.FnW
def frM (n : Nat) (g : Addr → Option Obj) : Frg := He.frG g (cStatics :: He.asD g n)
def obsM (fa : List He.Fa) (ex : Frg → Bool) (fn : List DefM) (K : Frg) : AlM := ((fa.all fun x => x.ok K) && (ex K && fn.all fun d => okM K d), fn.map fun d => seeM K d)
def valM (fn : List DefM) : AlM := (true, fn.map dueM)
def SaysM (fa : List He.Fa) (ex : Frg → Bool) (fn : List DefM) (K : Frg) : Prop := obsM fa ex fn K = valM fn
def hookM (n : Nat) (fa : List He.Fa) (ex : Frg → Bool) (fn : List DefM) : PySem.W.Hook where
  α := AlM
  obs := fun s => obsM fa ex fn (frM n s.heap.get?)
  val := fun _ => valM fn
  says := fun _ h => ∃ K : Frg, K.In h ∧ SaysM fa ex fn K
  of := fun _ _ e => ⟨_, He.frG_in, e⟩
  keeps := fun _ _ _ ⟨K, hK, c⟩ k => ⟨K, PySem.W.Frag.In.keeps hK k, c⟩
theorem obsM_eq {n : Nat} {fa : List He.Fa} {ex : Frg → Bool} {fn : List DefM} {g : Addr → Option Obj} {s : Shared} (h : ∀ a, g a = s.heap.get? a) : obsM fa ex fn (frM n g) = (hookM n fa ex fn).obs s := by
  have e : g = s.heap.get? := funext h
  subst e
  rfl
section
variable {fa : List He.Fa} {ex : Frg → Bool} {fn : List DefM} {K : Frg}
theorem SaysM.fact (c : SaysM fa ex fn K) (i : Nat) {x : He.Fa} (h : fa[i]? = some x) : x.ok K = true :=
  List.all_eq_true.mp (both (congrArg Prod.fst c : ((fa.all fun x => x.ok K) && (ex K && fn.all fun d => okM K d)) = true)).1 x (List.mem_of_getElem? h)
theorem SaysM.more (c : SaysM fa ex fn K) : ex K = true := (both (both (congrArg Prod.fst c : ((fa.all fun x => x.ok K) && (ex K && fn.all fun d => okM K d)) = true)).2).1
theorem SaysM.def_ (c : SaysM fa ex fn K) (i : Nat) {d : DefM} (h : fn[i]? = some d) : ∃ fd, FunD K d.nm d.ql d.pa d.bo d.sc (d.df.map (He.Dv.v K)) [] (d.ad K) fd := by
  have c2 := (both (both (congrArg Prod.fst c : ((fa.all fun x => x.ok K) && (ex K && fn.all fun d => okM K d)) = true)).2).2
  have e2 : (fn.map fun d => seeM K d)[i]? = (fn.map dueM)[i]? := congrArg (fun z : AlM => z.2[i]?) c
  simp only [List.getElem?_map, h, Option.map_some, Option.some.injEq] at e2
  exact funM e2 (List.all_eq_true.mp c2 d (List.mem_of_getElem? h))
end

/-! ### own classes: made, their fields and methods -/
theorem lk_hit (k : Str) (v : V) (r : List (Str × V)) : List.lookup k ((k, v) :: r) = some v := by simp [List.lookup]
theorem lk_miss {k a : Str} {v : V} {r : List (Str × V)} (h : (a == k) = false) : List.lookup a ((k, v) :: r) = List.lookup a r := by
  show (match a == k with
    | true => some v
    | false => List.lookup a r) = _
  rw [h]
theorem pf_nil (k : Str) (v : V) : putF k v [] = [(k, v)] := rfl
theorem pf_hit (k : Str) (v x : V) (r : List (Str × V)) : putF k v ((k, x) :: r) = (k, v) :: r := if_pos rfl
theorem pf_miss {k g : Str} {v x : V} {r : List (Str × V)} (h : ¬ g = k) : putF k v ((g, x) :: r) = (g, x) :: putF k v r := if_neg h
section
variable {X : Cx} {k j : Nat} {C : Addr} {x m : Str} {sp : Sp} {dvs : List V} {p pos apos : Pos} {e o : Expr} {es : List Expr} {ta : TE} {t : TA}
theorem pe_mk0 (c : Mak X.prog X.w X.K X.mg X.base k x C sp dvs) (hr : Room j X.A) (hk : k + 1 ≤ j) (hg : Gl X x) (hdb : (x == ("__debug__" : Str)) = false := by decide) : PE X (.Call (.Name x p) [] [] pos) (tMake C sp dvs C8.E0 tNil) := by
  obtain ⟨_, _, _, _, M, F, hm, b, d⟩ := c.ex
  exact pe_make0 M F (hr.mono hk) hg hm b d pass0 hdb
/-- a property of the class at C -/
structure Prp (P : Program) (w : World) (K : Frg) (mg : Str → Option Value) (base : Heap) (k : Nat) (C : Addr) (f : Str) (sp : Sp) : Prop where
  ex : ∃ (q g : Addr) (fd : FuncData) (ps : List Str), Cls K C ∧ PropOf K C f q g ∧ FnOk P w K mg base CX0 k g fd ps sp ∧ Binds K fd ps []
theorem pe_pr {f : Str} (c : Prp X.prog X.w X.K X.mg X.base k C f sp) (hr : Room j X.A) (hk : k + 1 ≤ j) (he : PE X o ta) (hab : attributeBase o f X.env (eval o X.env) = eval o X.env := by rfl) : PE X (.Attribute o f pos) (tProp C sp [] C8.E0 ta) := by
  obtain ⟨_, _, _, _, cl, q, F, b⟩ := c.ex
  exact pe_prop he cl q F (hr.mono hk) b .nil pass0 hab
end
section
variable {P : Program} {w : World} {K : Frg} {mg : Str → Option Value} {base : Heap} {x qual : Str} {params : Arguments} {body : List Stmt} {scope : Scope} {f : Addr} {fd : FuncData} {N ps : List Str} {k : Nat} {sp : Sp} {C : Addr}
theorem metD (F : FunD K x qual params body scope [] [] f fd) (cl : Cls K C) (me : Meth K C x f) (S : FnScope N ps scope)
    (hb : ∀ (kV doc pm : Value) (an : Option Addr) (cdv ct : Value) (us : List Value), us.length = ps.length → bindArgs (PySem.W.fnOf x qual params body scope .none kV doc pm an cdv ct) ⟨us, []⟩ = pure (ps.zip us))
    (len : ∀ vs H Q E, sp vs H Q E → vs.length = ps.length)
    (hbody : ∀ (cdv : Value) (A : Around) (outer : List Env) (s : Shared) (H : Hp) (vs : List V) (Q : VK) (E : XK), Room k (A.deeper (envOfC qual scope s.heap.objs.size f cdv)) → sp vs H Q E →
      ∃ t, PSs (cxOf CX0 P w K mg base N qual scope f cdv A outer s H E).nox body t ∧ t { nx := fun _ H' => Q .non H', rt := Q } (start N vs) H) : Met P w K mg base (k + 1) C x sp [] :=
  ⟨f, fd, ps, [], cl, me, fnD F S len hbody, F.bindsN hb, .nil⟩
theorem makD {y : Str} (F : FunD K x qual params body scope [] [] f fd) (M : Mk K C f) (m : mg y = some (.ref C)) (S : FnScope N ps scope)
    (hb : ∀ (kV doc pm : Value) (an : Option Addr) (cdv ct : Value) (us : List Value), us.length = ps.length → bindArgs (PySem.W.fnOf x qual params body scope .none kV doc pm an cdv ct) ⟨us, []⟩ = pure (ps.zip us))
    (len : ∀ vs H Q E, sp vs H Q E → vs.length = ps.length)
    (hbody : ∀ (cdv : Value) (A : Around) (outer : List Env) (s : Shared) (H : Hp) (vs : List V) (Q : VK) (E : XK), Room k (A.deeper (envOfC qual scope s.heap.objs.size f cdv)) → sp vs H Q E →
      ∃ t, PSs (cxOf CX0 P w K mg base N qual scope f cdv A outer s H E).nox body t ∧ t { nx := fun _ H' => Q .non H', rt := Q } (start N vs) H) : Mak P w K mg base (k + 1) y C sp [] :=
  ⟨f, fd, ps, [], M, fnD F S len hbody, m, F.bindsN hb, .nil⟩
theorem prpD {y : Str} {q : Addr} (F : FunD K x qual params body scope [] [] f fd) (cl : Cls K C) (pr : PropOf K C y q f) (S : FnScope N ps scope)
    (hb : ∀ (kV doc pm : Value) (an : Option Addr) (cdv ct : Value) (us : List Value), us.length = ps.length → bindArgs (PySem.W.fnOf x qual params body scope .none kV doc pm an cdv ct) ⟨us, []⟩ = pure (ps.zip us))
    (len : ∀ vs H Q E, sp vs H Q E → vs.length = ps.length)
    (hbody : ∀ (cdv : Value) (A : Around) (outer : List Env) (s : Shared) (H : Hp) (vs : List V) (Q : VK) (E : XK), Room k (A.deeper (envOfC qual scope s.heap.objs.size f cdv)) → sp vs H Q E →
      ∃ t, PSs (cxOf CX0 P w K mg base N qual scope f cdv A outer s H E).nox body t ∧ t { nx := fun _ H' => Q .non H', rt := Q } (start N vs) H) : Prp P w K mg base (k + 1) C y sp :=
  ⟨q, f, fd, ps, cl, pr, fnD F S len hbody, F.bindsN hb⟩
end
section
variable {σ : St} {H : Hp} {n b c : St → Hp → Prop} {r : VK} {Q : VK} {K : Frg} {a C dx : Addr} {fs : List (Str × V)} {f : Str} {v : V}
theorem r_fld {te : TE} (h : te σ H fun x H1 => ∃ a C dx fs v, x = .ref a ∧ H1 a = some (.ins C dx fs) ∧ Cls K C ∧ NoAttr K C f ∧ fs.lookup f = some v ∧ Q v H1) : tFld K te f σ H Q := h
theorem r_fget {R : V → Prop} (h : H a = some (.ins C dx fs)) (cl : Cls K C) (na : NoAttr K C f) (l : fs.lookup f = some v) (q : R v) :
    ∃ a' C dx fs v, V.ref a = .ref a' ∧ H a' = some (.ins C dx fs) ∧ Cls K C ∧ NoAttr K C f ∧ fs.lookup f = some v ∧ R v := ⟨a, C, dx, fs, v, rfl, h, cl, na, l, q⟩
theorem r_sfld {ta tv : TE} (h : tv σ H fun y H1 => ta σ H1 fun x H2 => ∃ a C dx fs, x = .ref a ∧ H2 a = some (.ins C dx fs) ∧ Cls K C ∧ NoAttr K C f ∧ fs.length < 1000 ∧ n σ (upd H2 a (.ins C dx (putF f y fs)))) : sFld K ta tv f ⟨n, r, b, c⟩ σ H := h
theorem r_fset {R : Hp → Prop} {fs' : List (Str × V)} (h : H a = some (.ins C dx fs)) (cl : Cls K C) (na : NoAttr K C f) (hl : fs.length < 1000) (e : putF f v fs = fs') (q : R (upd H a (.ins C dx fs'))) :
    ∃ a' C dx fs, V.ref a = .ref a' ∧ H a' = some (.ins C dx fs) ∧ Cls K C ∧ NoAttr K C f ∧ fs.length < 1000 ∧ R (upd H a' (.ins C dx (putF f v fs))) := ⟨a, C, dx, fs, rfl, h, cl, na, hl, by rw [e]; exact q⟩
theorem r_meth {m : Str} {sp : Sp} {dvs : List V} {E : XK} {ta : TE} {t : TA} (h : ta σ H fun x H1 => ∃ a dx fs, x = .ref a ∧ H1 a = some (.ins C dx fs) ∧ fs.lookup m = none ∧ t σ H1 fun vs H2 => sp (x :: (vs ++ dvs)) H2 Q E) : tMeth C m sp dvs E ta t σ H Q := h
theorem r_mget {m : Str} {R : Prop} (h : H a = some (.ins C dx fs)) (l : fs.lookup m = none) (q : R) : ∃ a' dx fs, V.ref a = .ref a' ∧ H a' = some (.ins C dx fs) ∧ fs.lookup m = none ∧ R := ⟨a, dx, fs, rfl, h, l, q⟩
theorem r_prop {sp : Sp} {dvs : List V} {E : XK} {ta : TE} (h : ta σ H fun x H1 => ∃ a dx fs, x = .ref a ∧ H1 a = some (.ins C dx fs) ∧ sp (.ref a :: dvs) H1 Q E) : tProp C sp dvs E ta σ H Q := h
theorem r_pget {R : Addr → Prop} (h : H a = some (.ins C dx fs)) (q : R a) : ∃ a' dx fs, V.ref a = .ref a' ∧ H a' = some (.ins C dx fs) ∧ R a' := ⟨a, dx, fs, rfl, h, q⟩
theorem r_make {sp : Sp} {dvs : List V} {E : XK} {t : TA} (h : t σ H fun vs H1 => ∀ x dx, H1 x = none → H1 dx = none → dx ≠ x → sp (.ref x :: (vs ++ dvs)) (upd (upd H1 dx (.own x)) x (.ins C dx [])) (fun v H2 => v = .non ∧ Q (.ref x) H2) E) : tMake C sp dvs E t σ H Q := h
end

/-! ### loops over rows -/
section
variable {X : Cx} {tg iter : Expr}
/-- one of two ways to come by an iterator -/
theorem pi_or {u v : TI} (h1 : PI X tg iter u) (h2 : PI X tg iter v) : PI X tg iter (fun σ H R => u σ H R ∨ v σ H R) := by
  refine ⟨fun pins s σ H R I h => ?_⟩
  rcases h with h | h
  · exact h1.run pins s σ H R I h
  · exact h2.run pins s σ H R I h
end
set_option maxHeartbeats 8000000 in
theorem meets_enum1 {v : Value} {o : Obj} {G : Heap → Prop} (B : Begins v o G) :
    Meets (Builtin.«enumerate.__new__» ⟨[.type "enumerate", v], []⟩) (fun _ R s => G s.heap ∧
      R (.ok (.ret (.ref (s.heap.push o).objs.size))) { s with heap := (s.heap.push o).push { cls := .type "enumerate", data := .fields #[.none, .bool false, .ref s.heap.objs.size, rawInt 0, .none, .none] } }) :=
  .of_wp fun prog w A R s h => by
    obtain ⟨hp, g, d, tk, os⟩ := s
    obtain ⟨h1, h⟩ := h
    have hsub := sub_enumerate
    have q1 : ∀ {A' : Around} {E : Value → Shared → Prop} {Q : Value → Shared → Prop}, Q (.ref hp.objs.size) ⟨hp.push o, g, d, tk, os⟩ → wpAny (model prog w) A' (pyIter v) Q E ⟨hp, g, d, tk, os⟩ :=
      fun q => B.iter prog w _ _ ⟨hp, g, d, tk, os⟩ _ h1 q
    wp_walk using q1
    refine wpAny_stack_any fun st => wpAny_pure ?_
    split
    · rename_i c _ _ _ _ _
      cases (c == Value.type "enumerate")
      · wp_walk using q1
        exact ⟨_, rfl, h⟩
      · wp_walk using q1
        exact ⟨_, rfl, h⟩
    · wp_walk using q1
      exact ⟨_, rfl, h⟩
theorem call_enum1 {prog : Program} {w : World} {A : Around} {E : Value → Shared → Prop} {s : Shared} {v : Value} {o : Obj} {G : Heap → Prop} {Q : Value → Shared → Prop} (B : Begins v o G) (h1 : G s.heap)
    (h : ∀ h', IsEnum h' (s.heap.objs.size + 1) s.heap.objs.size 0 .none → h'.get? s.heap.objs.size = some o → h'.objs.size = s.heap.objs.size + 2 →
      (∀ b o, s.heap.get? b = some o → h'.get? b = some o) → Q (.ref (s.heap.objs.size + 1)) { s with heap := h' }) : wpAny (model prog w) A (call (.type "enumerate") [v]) Q E s := by
  refine callType_new F.called_enumerate (by decide) (F.typeCall_enumerate_1 _) (F.newCall_enumerate_1 _) (fun obj => F.args_object_init_2 obj _) F.entry_enumerate_new (meets_enum1 B) ⟨h1, ?_⟩
  have hz : (s.heap.push o).objs.size = s.heap.objs.size + 1 := Heap.size_push ..
  show _ ∧ _
  rw [hz]
  have he := Heap.get?_push_size (s.heap.push o) (o := { cls := .type "enumerate", data := .fields #[.none, .bool false, .ref s.heap.objs.size, rawInt 0, .none, .none] }) rfl
  rw [hz] at he
  exact ⟨⟨_, he, rfl⟩, h _ he (Heap.get?_push_of_some _ (Heap.get?_push_size _ B.free)) (by rw [Heap.size_push, hz]) fun b o x => Heap.get?_push_of_some _ (Heap.get?_push_of_some _ x)⟩
/-- the tuple at a, each item in a new pair -/
def Itet (K : PySem.W.Frag) (a : Addr) (xs : List V) : It :=
  ⟨fun i H => SqT K H a xs ∧ i < xs.length, fun i H v H' => ∃ T x, v = .ref T ∧ H T = none ∧ H' = upd H T (.tup [.int (i : Nat), x]) ∧ xs[i]? = some x, fun i H => SqT K H a xs ∧ xs.length ≤ i⟩
theorem turn_enumT {P : Program} {w : World} {K : PySem.W.Frag} {elts : List Expr} {kk : Nat} {tpos : Pos} (a e it : Addr) (xs : List V) (hta : a ≠ it) :
    Turn P w K (.Tuple elts kk tpos) (Itet K a xs) [e, it] e (fun i h => (∃ old, IsEnum h e it ((i : Nat) : Int) old) ∧ h.IsTupleIter it a i ∧ e ≠ it ∧ i ≤ xs.length) where
  mem := by simp
  obj := fun i h st b hb => by
    obtain ⟨⟨old, he⟩, ⟨o, ho, hc, hd⟩, _⟩ := st
    have e' : b = e ∨ b = it := by simpa using hb
    rcases e' with z | z
    · rw [z]
      exact ⟨_, he, fun v q => nomatch q⟩
    · rw [z]
      exact ⟨o, ho, fun v q => by rw [hd] at q; cases q⟩
  keep := fun i h h' st k => let ⟨⟨old, he⟩, hi, hne, hn⟩ := st; ⟨⟨old, k e (by simp) _ he⟩, hi.at fun o q => k it (by simp) o q, hne, hn⟩
  item := by
    intro X hP hw hK hc i pins s σ H E I hf st hg
    subst hP hw hK
    obtain ⟨⟨old, he⟩, hit, hne, hn⟩ := st
    obtain ⟨hq, hlt⟩ := hg
    obtain ⟨its, rv, p, hz⟩ := I.tuple hq
    have p' : s.heap.IsTuple a its.toArray := p
    have hl := rv.length
    have hel : e < s.heap.objs.size := Heap.lt_size he
    have hil : it < s.heap.objs.size := by
      obtain ⟨_, q, _⟩ := hit
      exact Heap.lt_size q
    have hea : e ≠ a := fun q => by
      obtain ⟨o, ho, hc', _⟩ := p'
      rw [← q, he] at ho
      cases ho
      have z : Value.type "enumerate" = Value.type "tuple" := hc'
      injection z with z
      exact absurd z (by decide)
    have D := Draws.tuple (prog := X.prog) (w := X.w) (A := X.A.in1) (I.ok.hd hc) it a hta its.toArray
    refine wpAny_pyNext_enum_itemD D he ⟨hit, p'⟩ (by simpa [← hl] using hlt) hne (by simp [hne, hea]) fun u h' tk hu ho hs' hT hsz hk => ?_
    obtain ⟨x, hx, ru⟩ : ∃ x, xs[i]? = some x ∧ RelV x u := by
      obtain ⟨u', hu', r'⟩ := rv.get (List.getElem?_eq_getElem hlt)
      have e1 : its[i]? = some u := by simpa using hu
      rw [e1] at hu'
      cases hu'
      exact ⟨_, List.getElem?_eq_getElem hlt, r'⟩
    refine ⟨_, rfl, wpAny_letOwnedTupleGo_enum (s := { s with heap := h', toks := tk + 1 }) ho fun h'' he' sb => ?_⟩
    have hT2 : h''.get? s.heap.objs.size = some { cls := .type "tuple", data := .seq #[.int i tk, u] } := (sb.2 _ (Nat.ne_of_gt hel)).trans hT
    have new : ObjOk X.prog X.w (upd H s.heap.objs.size (.tup [.int (i : Nat), x])) h'' s.heap.objs.size (.tup [.int (i : Nat), x]) :=
      ⟨by show 2 ≤ sizeLine; decide, [.int i tk, u], .cons ⟨_, rfl⟩ (.cons ru .nil), ⟨_, hT2, rfl, _, rfl⟩⟩
    have I1 : Inv X pins σ (upd H s.heap.objs.size (.tup [.int (i : Nat), x])) { s with heap := h'', toks := tk + 1 } :=
      I.turnedNew (ch := [e, it]) (fun b ob hb q => (sb.2 b (fun z => hb (by simp [z]))).trans (hk b ob (fun z => hb (by simp [z])) (fun z => hb (by simp [z])) q)) hf (Nat.le_refl _) new
    refine ⟨.ref s.heap.objs.size, _, I1, rfl, ⟨_, x, rfl, I.hok.fresh (Nat.le_refl _), rfl, hx⟩, ⟨⟨u, ?_⟩, hs'.1.at fun o q => (sb.2 it (Ne.symm hne)).trans q, hne, hlt⟩, fun b hb => ?_⟩
    · have e1 : ((i + 1 : Nat) : Int) = (i : Int) + 1 := by omega
      rw [e1]
      exact he'
    · have hb' : b < s.heap.objs.size := by
        have e' : b = e ∨ b = it := by simpa using hb
        rcases e' with z | z
        · rw [z]
          exact hel
        · rw [z]
          exact hil
      rw [upd_ne (Nat.ne_of_lt hb')]
      exact (hf b hb).1
  done := by
    intro X hP hw hK hc i pins s σ H E I hf st hg
    subst hP hw hK
    obtain ⟨⟨old, he⟩, hit, hne, hn⟩ := st
    obtain ⟨hq, hx⟩ := hg
    obtain ⟨its, rv, p, hz⟩ := I.tuple hq
    have p' : s.heap.IsTuple a its.toArray := p
    obtain ⟨f0, f1, f2, f3, f4, f5⟩ := hf it (by simp)
    have hl := rv.length
    have hi : i = its.toArray.size := by
      simp
      omega
    subst hi
    have D := Draws.tuple (prog := X.prog) (w := X.w) (A := X.A.in1) (I.ok.hd hc) it a hta its.toArray
    exact wpAny_pyNext_enum_endD D he ⟨hit, p'⟩ fun h' eb => ⟨rfl, I.turned (t' := s.toks) (fun b o hb q => eb b o hb q) f0 f1 f3 f4 f5⟩
  self := fun A i s Q E st h => let ⟨⟨_, he⟩, _⟩ := st; wpAny_pyIter_enum he h
def iEnumT (K : PySem.W.Frag) (ta : TA) : TI := fun σ H R => ta σ H fun vs H1 => ∃ a xs, vs = [.ref a] ∧ SqT K H1 a xs ∧ R (Itet K a xs) H1
theorem pi_enumT {X : Cx} {e : Expr} {ta : TA} {p pos tpos : Pos} {elts : List Expr} {kk : Nat} (hg : Gl X "enumerate") (hm : X.mg "enumerate" = none) (ha : PA X [e] ta) (hs : starEach [e] X.env = [(false, eval e X.env)] := by rfl) :
    PI X (.Tuple elts kk tpos) (.Call (.Name "enumerate" p) [e] [] pos) (iEnumT X.K ta) := by
  refine ⟨fun pins s σ H R I h => ?_⟩
  refine PyProof.Rows.Call_ (ld_blt I hg hm PyProof.Rows.boot_enumerate (PyProof.Rows.callWith_type1 (thn (ha.run pos pins s σ H _ I h) fun us s1 ⟨vs, H1, I1, r1, q1⟩ => ?_) hs rfl))
  obtain ⟨a, xs, ex, hq, q⟩ := q1
  subst ex
  cases r1 with
  | cons r rr =>
    cases rr
    cases r
    obtain ⟨its, rv, p', hz⟩ := I1.tuple hq
    have p2 : s1.heap.IsTuple a its.toArray := p'
    refine call_enum1 (begins_tuple a its.toArray) p2 fun h' he hit hsz hk => wpAny_pyIter_enum he ?_
    have I2 : Inv X pins σ H1 { s1 with heap := h' } := I1.kept (t' := s1.toks) hk
    have hal : a < s1.heap.objs.size := by
      obtain ⟨_, q, _⟩ := p2
      exact Heap.lt_size q
    refine ⟨s1.heap.objs.size + 1, [s1.heap.objs.size + 1, s1.heap.objs.size], _, _, H1, rfl, I2, turn_enumT a (s1.heap.objs.size + 1) s1.heap.objs.size xs (Nat.ne_of_lt hal), ⟨⟨.none, he⟩, ⟨_, hit, rfl, rfl⟩, Nat.succ_ne_self _, Nat.zero_le _⟩, fun b hb => ?_, q⟩
    have e' : b = s1.heap.objs.size + 1 ∨ b = s1.heap.objs.size := by simpa using hb
    have hle : s1.heap.objs.size ≤ b := by
      rcases e' with z | z
      · rw [z]
        exact Nat.le_add_right _ _
      · rw [z]
        exact Nat.le_refl _
    exact I1.fpOk hle (I1.hok.fresh hle)
/-! ### the turns of such loops -/
section
variable {σ : St} {H : Hp} {n b c : St → Hp → Prop} {r : VK} {Q : VK} {K : PySem.W.Frag}
theorem r_each {J : It} {g : TG} {tb : TS} (N : Nat) (Pv : Nat → St → Hp → Prop) (h0 : Pv 0 σ H)
    (hs : ∀ (i : Nat) σ H, i < N → Pv i σ H → J.go i H ∧ ∀ x H', J.yld i H x H' → g x σ H' fun σ2 H2 => tb ⟨Pv (i + 1), r, n, Pv (i + 1)⟩ σ2 H2) (hd : ∀ σ H, Pv N σ H → J.stop N H ∧ n σ H) :
    ∃ W : Nat → Nat → St → Hp → Prop, (∃ m, W 0 m σ H) ∧ ∀ i m σ H, W i m σ H →
    (J.stop i H ∧ n σ H) ∨ (J.go i H ∧ ∃ N : St → Hp → Prop, (∀ σ' H', N σ' H' → ∃ m', m' < m ∧ W (i + 1) m' σ' H') ∧ ∀ x H', J.yld i H x H' → g x σ H' fun σ2 H2 => tb ⟨N, r, n, N⟩ σ2 H2) := by
  refine ⟨fun i m σ H => i ≤ N ∧ m = N - i ∧ Pv i σ H, ⟨N, Nat.zero_le _, rfl, h0⟩, fun i m σ H ⟨hi, hm, hp⟩ => ?_⟩
  by_cases c : i < N
  · obtain ⟨h1, h2⟩ := hs i σ H c hp
    exact .inr ⟨h1, Pv (i + 1), fun σ' H' q => ⟨N - (i + 1), by omega, c, rfl, q⟩, h2⟩
  · have e : i = N := by omega
    subst e
    exact .inl (hd σ H hp)
/-- a for over a list -/
theorem r_eachL {g : TG} {tb : TS} {a : Addr} {xs : List V} (Pv : Nat → St → Hp → Prop) (h0 : Pv 0 σ H) (hl : ∀ i σ H, Pv i σ H → SqL K H a xs)
    (hs : ∀ (i : Nat) x σ H, xs[i]? = some x → Pv i σ H → g x σ H fun σ2 H2 => tb ⟨Pv (i + 1), r, n, Pv (i + 1)⟩ σ2 H2) (hd : ∀ σ H, Pv xs.length σ H → n σ H) :
    ∃ W : Nat → Nat → St → Hp → Prop, (∃ m, W 0 m σ H) ∧ ∀ i m σ H, W i m σ H →
    ((Itl K a).stop i H ∧ n σ H) ∨ ((Itl K a).go i H ∧ ∃ N : St → Hp → Prop, (∀ σ' H', N σ' H' → ∃ m', m' < m ∧ W (i + 1) m' σ' H') ∧ ∀ x H', (Itl K a).yld i H x H' → g x σ H' fun σ2 H2 => tb ⟨N, r, n, N⟩ σ2 H2) := by
  refine r_each xs.length Pv h0 (fun i σ H hi p => ⟨⟨xs, xs[i], hl i σ H p, List.getElem?_eq_getElem hi⟩, ?_⟩) fun σ H p => ⟨⟨xs, hl _ σ H p, Nat.le_refl _⟩, hd σ H p⟩
  rintro x _ ⟨rfl, e⟩
  exact hs i x σ _ (e xs (hl i σ _ p)) p
/-- .. a tuple -/
theorem r_eachT {g : TG} {tb : TS} {a : Addr} {xs : List V} (Pv : Nat → St → Hp → Prop) (h0 : Pv 0 σ H) (hl : ∀ i σ H, Pv i σ H → SqT K H a xs)
    (hs : ∀ (i : Nat) x σ H, xs[i]? = some x → Pv i σ H → g x σ H fun σ2 H2 => tb ⟨Pv (i + 1), r, n, Pv (i + 1)⟩ σ2 H2) (hd : ∀ σ H, Pv xs.length σ H → n σ H) :
    ∃ W : Nat → Nat → St → Hp → Prop, (∃ m, W 0 m σ H) ∧ ∀ i m σ H, W i m σ H →
    ((Itt K a).stop i H ∧ n σ H) ∨ ((Itt K a).go i H ∧ ∃ N : St → Hp → Prop, (∀ σ' H', N σ' H' → ∃ m', m' < m ∧ W (i + 1) m' σ' H') ∧ ∀ x H', (Itt K a).yld i H x H' → g x σ H' fun σ2 H2 => tb ⟨N, r, n, N⟩ σ2 H2) := by
  refine r_each xs.length Pv h0 (fun i σ H hi p => ⟨⟨xs, xs[i], hl i σ H p, List.getElem?_eq_getElem hi⟩, ?_⟩) fun σ H p => ⟨⟨xs, hl _ σ H p, Nat.le_refl _⟩, hd σ H p⟩
  rintro x _ ⟨rfl, e⟩
  exact hs i x σ _ (e xs (hl i σ _ p)) p
/-- .. with the numbers of the turns -/
theorem r_eachE {g : TG} {tb : TS} {a : Addr} {xs : List V} (Pv : Nat → St → Hp → Prop) (h0 : Pv 0 σ H) (hl : ∀ i σ H, Pv i σ H → SqL K H a xs)
    (hs : ∀ (i : Nat) x σ H T, xs[i]? = some x → Pv i σ H → H T = none → g (.ref T) σ (upd H T (.tup [.int (i : Nat), x])) fun σ2 H2 => tb ⟨Pv (i + 1), r, n, Pv (i + 1)⟩ σ2 H2) (hd : ∀ σ H, Pv xs.length σ H → n σ H) :
    ∃ W : Nat → Nat → St → Hp → Prop, (∃ m, W 0 m σ H) ∧ ∀ i m σ H, W i m σ H →
    ((Ite K a).stop i H ∧ n σ H) ∨ ((Ite K a).go i H ∧ ∃ N : St → Hp → Prop, (∀ σ' H', N σ' H' → ∃ m', m' < m ∧ W (i + 1) m' σ' H') ∧ ∀ x H', (Ite K a).yld i H x H' → g x σ H' fun σ2 H2 => tb ⟨N, r, n, N⟩ σ2 H2) := by
  refine r_each xs.length Pv h0 (fun i σ H hi p => ⟨⟨xs, xs[i], hl i σ H p, List.getElem?_eq_getElem hi⟩, ?_⟩) fun σ H p => ⟨⟨xs, hl _ σ H p, Nat.le_refl _⟩, hd σ H p⟩
  rintro _ _ ⟨T, x, rfl, hT, rfl, e⟩
  exact hs i x σ _ T (e xs (hl i σ _ p)) p hT
theorem r_eachET {g : TG} {tb : TS} {a : Addr} {xs : List V} (Pv : Nat → St → Hp → Prop) (h0 : Pv 0 σ H) (hl : ∀ i σ H, Pv i σ H → SqT K H a xs)
    (hs : ∀ (i : Nat) x σ H T, xs[i]? = some x → Pv i σ H → H T = none → g (.ref T) σ (upd H T (.tup [.int (i : Nat), x])) fun σ2 H2 => tb ⟨Pv (i + 1), r, n, Pv (i + 1)⟩ σ2 H2) (hd : ∀ σ H, Pv xs.length σ H → n σ H) :
    ∃ W : Nat → Nat → St → Hp → Prop, (∃ m, W 0 m σ H) ∧ ∀ i m σ H, W i m σ H →
    ((Itet K a xs).stop i H ∧ n σ H) ∨ ((Itet K a xs).go i H ∧ ∃ N : St → Hp → Prop, (∀ σ' H', N σ' H' → ∃ m', m' < m ∧ W (i + 1) m' σ' H') ∧ ∀ x H', (Itet K a xs).yld i H x H' → g x σ H' fun σ2 H2 => tb ⟨N, r, n, N⟩ σ2 H2) := by
  refine r_each xs.length Pv h0 (fun i σ H hi p => ⟨⟨hl i σ H p, hi⟩, ?_⟩) fun σ H p => ⟨⟨hl _ σ H p, Nat.le_refl _⟩, hd σ H p⟩
  rintro _ _ ⟨T, x, rfl, hT, rfl, e⟩
  exact hs i x σ _ T e p hT
/-- .. of range(i, j, c) -/
theorem r_eachR {g : TG} {tb : TS} {i0 j0 c0 : Int} (k : Nat) (hc : RgC i0 j0 c0 k) (Pv : Nat → St → Hp → Prop) (h0 : Pv 0 σ H)
    (hs : ∀ (i : Nat) σ H, i < k → Pv i σ H → g (.int (i0 + i * c0)) σ H fun σ2 H2 => tb ⟨Pv (i + 1), r, n, Pv (i + 1)⟩ σ2 H2) (hd : ∀ σ H, Pv k σ H → n σ H) :
    RgC i0 j0 c0 k ∧ ∃ W : Nat → Nat → St → Hp → Prop, (∃ m, W 0 m σ H) ∧ ∀ i m σ H, W i m σ H →
    ((Itc i0 c0 k).stop i H ∧ n σ H) ∨ ((Itc i0 c0 k).go i H ∧ ∃ N : St → Hp → Prop, (∀ σ' H', N σ' H' → ∃ m', m' < m ∧ W (i + 1) m' σ' H') ∧ ∀ x H', (Itc i0 c0 k).yld i H x H' → g x σ H' fun σ2 H2 => tb ⟨N, r, n, N⟩ σ2 H2) := by
  refine ⟨hc, r_each k Pv h0 (fun i σ H hi p => ⟨hi, ?_⟩) fun σ H p => ⟨Nat.le_refl _, hd σ H p⟩⟩
  rintro _ _ ⟨rfl, rfl⟩
  exact hs i σ _ hi p
theorem r_rng2 {ta : TA} {R : It → Hp → Prop} (h : ta σ H fun vs H1 => ∃ i j : Int, vs = [.int i, .int j] ∧ (-(2 ^ 62) ≤ i ∧ i < 2 ^ 62 ∧ -(2 ^ 62) ≤ j ∧ j < 2 ^ 62) ∧ R (Itr i (j - i).toNat) H1) : iRng2 ta σ H R := h
theorem r_rng3 {ta : TA} {R : It → Hp → Prop} (h : ta σ H fun vs H1 => ∃ (i j c : Int) (n : Nat), vs = [.int i, .int j, .int c] ∧ RgC i j c n ∧ R (Itc i c n) H1) : iRng3 ta σ H R := h
theorem r_itL {tl : TE} {R : It → Hp → Prop} (h : tl σ H fun x H1 => ∃ a, x = .ref a ∧ (∃ xs, SqL K H1 a xs) ∧ R (Itl K a) H1) : iList K tl σ H R := h
theorem r_itT {tl : TE} {R : It → Hp → Prop} (h : tl σ H fun x H1 => ∃ a, x = .ref a ∧ (∃ xs, SqT K H1 a xs) ∧ R (Itt K a) H1) : iTup K tl σ H R := h
theorem r_itE {ta : TA} {R : It → Hp → Prop} (h : ta σ H fun vs H1 => ∃ a xs, vs = [.ref a] ∧ SqL K H1 a xs ∧ R (Ite K a) H1) : iEnum K ta σ H R := h
theorem r_itET {ta : TA} {R : It → Hp → Prop} (h : ta σ H fun vs H1 => ∃ a xs, vs = [.ref a] ∧ SqT K H1 a xs ∧ R (Itet K a xs) H1) : iEnumT K ta σ H R := h
theorem r_eqB {i j : Bool} (h : Q (.bl (decide (i = j))) H) : rEq (.bl i) (.bl j) H Q := by
  have e : decide (V.bl i = V.bl j) = decide (i = j) := by simp
  exact ⟨rfl, by rw [e]; exact h⟩
theorem r_neB {i j : Bool} (h : Q (.bl (!decide (i = j))) H) : rNe (.bl i) (.bl j) H Q := by
  have e : decide (V.bl i = V.bl j) = decide (i = j) := by simp
  exact ⟨rfl, by rw [e]; exact h⟩
end
/-- an if whose test is known -/
theorem r_ifB {σ : St} {H : Hp} {D : Ends} {tt : TT} {t u : TS} (b : Bool) (ht : ∀ R : Bool → Hp → Prop, R b H → tt σ H R) (h : if b = true then t D σ H else u D σ H) : tIfS tt t u D σ H := ht _ h

/-! ### an attribute as a target among others -/
section
variable {X : Cx} {o : Expr} {ta : TE} {f : Str} {pos : Pos}
def gFld (K : PySem.W.Frag) (ta : TE) (f : Str) : TG := fun v σ H R => ta σ H fun x H1 => ∃ a C dx fs, x = .ref a ∧ H1 a = some (.ins C dx fs) ∧ Cls K C ∧ NoAttr K C f ∧ fs.length < 1000 ∧ R σ (upd H1 a (.ins C dx (putF f v fs)))
theorem pg_fld (ha : PE X o ta) : PG X (.Attribute o f pos) (gFld X.K ta f) := by
  refine ⟨fun pins s σ H v u Q I r h => ?_⟩
  rw [assign_Attribute]
  refine wpAny_bind (wpAny_holding (thn (ha.run pins s σ H _ I h) fun ov s2 ⟨x, H2, I2, rx, a, C, dx, fs, ex, ea, c, n, l, q2⟩ => ?_))
  subst ex
  obtain rfl : ov = Value.ref a := rx
  refine wpAny_bind (wpAny_standAt (wpAny_bind (wpAny_holding ?_)))
  exact setattr_ok I2 ea c n l r fun s3 I3 => wpAny_release ⟨σ, _, I3, q2⟩
end

local macro_rules | `(tactic| walk_at "rv") => `(tactic| ((with_reducible apply r_var); (· rfl)))
local macro_rules | `(tactic| walk_at "rd1") => `(tactic| first
  | (with_reducible refine r_seq ?_)
  | (with_reducible refine r_asg ?_)
  | (with_reducible refine r_name ?_)
  | ((with_reducible apply r_var); (· rfl))
  | (with_reducible refine r_c ?_)
  | (with_reducible refine r_op ?_)
  | (with_reducible refine r_I0 ?_)
  | (with_reducible refine r_eqI ?_)
  | (with_reducible refine r_neI ?_)
  | (with_reducible refine r_eqS ?_)
  | (with_reducible refine r_neS ?_)
  | (with_reducible refine r_cons ?_)
  | (with_reducible refine r_nil ?_)
  | (with_reducible refine r_if ?_)
  | (with_reducible refine r_test ?_)
  | (with_reducible refine r_B ?_)
  | (with_reducible refine r_bl ?_)
  | (with_reducible refine r_ret ?_)
  | (with_reducible refine r_drop ?_)
  | (with_reducible refine r_un ?_)
  | (with_reducible refine r_U ?_)
  | (with_reducible refine r_CB ?_)
  | (with_reducible refine r_call ?_)
  | (with_reducible refine r_retN ?_)
  | (with_reducible refine r_next ?_)
  | (with_reducible refine r_brk ?_)
  | (with_reducible refine r_ifE ?_)
  | (with_reducible refine r_and ?_)
  | (with_reducible refine r_or ?_)
  | (with_reducible refine r_not ?_)
  | (with_reducible refine r_andV ?_)
  | (with_reducible refine r_orV ?_)
  | (with_reducible refine r_notV ?_)
  | (with_reducible refine r_chain ?_)
  | (with_reducible refine r_iteF ?_)
  | (with_reducible refine r_iteT ?_)
  | (with_reducible refine r_iteNT ?_)
  | (with_reducible refine r_iteNF ?_)
  | ((with_reducible apply r_I); (· first | decide | exact ⟨by decide, by decide⟩ | exact .inr ⟨by decide, by decide⟩ | exact .inl ⟨by decide, by decide⟩ | exact ⟨by decide, by decide, by decide⟩))
  | (with_reducible refine r_bm ?_)
  | (with_reducible refine r_bm0 ?_)
  | (with_reducible refine r_sub ?_)
  | (with_reducible refine r_yes ?_)
  | (with_reducible refine r_fld ?_)
  | (with_reducible refine r_sfld ?_)
  | (with_reducible refine r_meth ?_)
  | (with_reducible refine r_prop ?_)
  | (with_reducible refine r_make ?_)
  | (with_reducible refine r_gcons ?_)
  | (with_reducible refine r_gnil ?_)
  | (with_reducible refine r_rfl ?_)
  | (with_reducible refine r_for ?_)
  | (with_reducible refine r_rng1 ?_)
  | (with_reducible refine r_int1 ?_)
  | (with_reducible refine r_abs ?_)
  | (with_reducible refine r_tup ?_)
  | (with_reducible refine r_lst ?_))
local macro_rules | `(tactic| walk_at "rd") => `(tactic| repeat (walk_at "rd1"))
local macro_rules | `(tactic| walk_at "ri1") => `(tactic| first
  | (with_reducible refine r_seq ?_)
  | (with_reducible refine r_asg ?_)
  | (with_reducible refine r_name ?_)
  | ((with_reducible apply r_var); (· rfl))
  | (with_reducible refine r_c ?_)
  | (with_reducible refine r_op ?_)
  | (with_reducible refine r_I0 ?_)
  | (with_reducible refine r_eqI ?_)
  | (with_reducible refine r_neI ?_)
  | (with_reducible refine r_eqS ?_)
  | (with_reducible refine r_neS ?_)
  | (with_reducible refine r_cons ?_)
  | (with_reducible refine r_nil ?_)
  | (with_reducible refine r_test ?_)
  | (with_reducible refine r_B ?_)
  | (with_reducible refine r_bl ?_)
  | (with_reducible refine r_ret ?_)
  | (with_reducible refine r_drop ?_)
  | (with_reducible refine r_un ?_)
  | (with_reducible refine r_U ?_)
  | (with_reducible refine r_CB ?_)
  | (with_reducible refine r_call ?_)
  | (with_reducible refine r_retN ?_)
  | (with_reducible refine r_next ?_)
  | (with_reducible refine r_brk ?_)
  | (with_reducible refine r_ifE ?_)
  | (with_reducible refine r_and ?_)
  | (with_reducible refine r_or ?_)
  | (with_reducible refine r_not ?_)
  | (with_reducible refine r_andV ?_)
  | (with_reducible refine r_orV ?_)
  | (with_reducible refine r_notV ?_)
  | (with_reducible refine r_chain ?_)
  | (with_reducible refine r_iteF ?_)
  | (with_reducible refine r_iteT ?_)
  | (with_reducible refine r_iteNT ?_)
  | (with_reducible refine r_iteNF ?_)
  | ((with_reducible apply r_I); (· first | decide | exact ⟨by decide, by decide⟩ | exact .inr ⟨by decide, by decide⟩ | exact .inl ⟨by decide, by decide⟩ | exact ⟨by decide, by decide, by decide⟩))
  | (with_reducible refine r_bm ?_)
  | (with_reducible refine r_bm0 ?_)
  | (with_reducible refine r_sub ?_)
  | (with_reducible refine r_yes ?_)
  | (with_reducible refine r_fld ?_)
  | (with_reducible refine r_sfld ?_)
  | (with_reducible refine r_meth ?_)
  | (with_reducible refine r_prop ?_)
  | (with_reducible refine r_make ?_)
  | (with_reducible refine r_gcons ?_)
  | (with_reducible refine r_gnil ?_)
  | (with_reducible refine r_rfl ?_)
  | (with_reducible refine r_for ?_)
  | (with_reducible refine r_rng1 ?_)
  | (with_reducible refine r_int1 ?_)
  | (with_reducible refine r_abs ?_)
  | (with_reducible refine r_tup ?_)
  | (with_reducible refine r_lst ?_))
local macro_rules | `(tactic| walk_at "ri") => `(tactic| repeat (walk_at "ri1"))

structure Nm (K : Frg) (mg : Str → Option Value) : Prop where
  divmod : mg "divmod" = none
  str : mg "str" = none
  reversed : mg "reversed" = none
  abs : mg "abs" = none
  range : mg "range" = none
  len : mg "len" = none
  list : mg "list" = none
  sorted : mg "sorted" = none
  int : mg "int" = none
  tuple : mg "tuple" = none
  isinstance : mg "isinstance" = none
  bool : mg "bool" = none
  ord : mg "ord" = none
  g_PIECE : ∃ u, mg "PIECE" = some u ∧ RelV (.int 10000000000000000000000000000000000000000000000000000000000000000) u
  g_PIECE_DIGITS : ∃ u, mg "PIECE_DIGITS" = some u ∧ RelV (.int 64) u
  g_MARKS : ∃ v u, mg "MARKS" = some u ∧ RelV v u ∧ ∀ H, Dp K H v (.tuple [.int 0, .int 192, .int 224, .int 240])
  g_INDEFINITE : ∃ u, mg "INDEFINITE" = some u ∧ RelV (.int 128) u
  g_TRUTH : ∃ u, mg "TRUTH" = some u ∧ RelV (.int 1) u
  g_BYTES : ∃ u, mg "BYTES" = some u ∧ RelV (.int 4) u
  g_NULL_TAG : ∃ u, mg "NULL_TAG" = some u ∧ RelV (.int 5) u
  g_TRUE_OCTET : ∃ u, mg "TRUE_OCTET" = some u ∧ RelV (.int 255) u
  g_FALSE_OCTET : ∃ u, mg "FALSE_OCTET" = some u ∧ RelV (.int 0) u
  g_TEXT : ∃ u, mg "TEXT" = some u ∧ RelV (.int 12) u
  g_LARGEST_SCALE : ∃ u, mg "LARGEST_SCALE" = some u ∧ RelV (.int 64) u
  g_DECIMAL : ∃ u, mg "DECIMAL" = some u ∧ RelV (.int 9) u
  g_INTEGER : ∃ u, mg "INTEGER" = some u ∧ RelV (.int 2) u
  g_WITH_EXPONENT : ∃ u, mg "WITH_EXPONENT" = some u ∧ RelV (.int 3) u
  g_LIST : ∃ u, mg "LIST" = some u ∧ RelV (.int 48) u
  g_MAP : ∃ u, mg "MAP" = some u ∧ RelV (.int 49) u
  dig : DigK K

/-! ### numbers by powers of ten -/
theorem pow_bits {b : Int} (hb : b.natAbs < 16) (c : Nat) : (b ^ c).natAbs < 2 ^ (4 * c + 1) := by
  rw [Int.natAbs_pow]
  have h1 : b.natAbs ^ c ≤ 16 ^ c := Nat.pow_le_pow_left (by omega) c
  have h2 : (16 : Nat) ^ c = 2 ^ (4 * c) := by
    rw [Nat.pow_mul]
  have h3 : (2 : Nat) ^ (4 * c) < 2 ^ (4 * c + 1) := Nat.pow_lt_pow_right (by decide) (by omega)
  omega
theorem bits10 (n : Nat) : (10 : Int) ^ n < 2 ^ (4 * n + 1) := by
  have h := pow_bits (b := 10) (by decide) n
  have e : ((10 : Int) ^ n).natAbs = 10 ^ n := by rw [Int.natAbs_pow]; rfl
  rw [e] at h
  have h2 : ((10 ^ n : Nat) : Int) < ((2 ^ (4 * n + 1) : Nat) : Int) := Int.ofNat_lt.mpr h
  rw [Int.natCast_pow, Int.natCast_pow] at h2
  exact h2
theorem abs10 {x : Int} {n : Nat} (h : x.natAbs < 10 ^ n) : x.natAbs < 2 ^ (4 * n + 1) := by
  have h1 := pow_bits (b := 10) (by decide) n
  have e : ((10 : Int) ^ n).natAbs = 10 ^ n := by rw [Int.natAbs_pow]; rfl
  rw [e] at h1
  omega
theorem abs_mul10 {x y : Int} {a b : Nat} (h1 : x.natAbs < 10 ^ a) (h2 : y.natAbs < 10 ^ b) : (x * y).natAbs < 10 ^ (a + b) := by
  rw [Int.natAbs_mul, Nat.pow_add]
  exact Nat.mul_lt_mul'' h1 h2
theorem natAbs10 (n : Nat) : ((10 : Int) ^ n).natAbs = 10 ^ n := by rw [Int.natAbs_pow]; rfl
theorem pow10_le {a b : Nat} (h : a ≤ b) : (10 : Nat) ^ a ≤ 10 ^ b := Nat.pow_le_pow_right (by decide) h
def sp_law (K : PySem.W.Frag) : Sp := sp1 fun a H Q _ => ∃ (sl : Addr) (ns : List Int), a = .ref sl ∧ SqL K H sl (ns.map V.int) ∧ ∀ H', Q (.bl true) H'

/-! ### the law's state: a list of drawn numbers, its place, and the script; every draw is any number below its bound -/
structure SC where
  a : Addr
  nl : Addr
  sl : Addr
  nums : List Int
  ns : List Int
structure LS (K : PySem.W.Frag) (S : SC) (H : Hp) : Prop where
  st : ∃ k l f : Int, H S.a = some (.lst [.ref S.nl, .int k, .int l, .ref S.sl, .int f])
  nm : H S.nl = some (.lst (S.nums.map V.int))
  len : S.nums.length = 120
  ne : S.nl ≠ S.a
  scr : SqL K H S.sl (S.ns.map V.int)
/-- all but the state's own list stays -/
def Keep (S : SC) (H H' : Hp) : Prop := ∀ b o, b ≠ S.a → H b = some o → H' b = some o
theorem Keep.refl (S : SC) (H : Hp) : Keep S H H := fun _ _ _ h => h
theorem Keep.trans {S : SC} {H H1 H2 : Hp} (a : Keep S H H1) (b : Keep S H1 H2) : Keep S H H2 := fun c o n h => b c o n (a c o n h)
theorem Keep.of {S : SC} {H H' : Hp} (h : Same H H') : Keep S H H' := fun b o _ q => h b o q
section
variable {K : PySem.W.Frag} {S : SC} {H H' : Hp}
theorem LS.same (L : LS K S H) (h : Same H H') : LS K S H' := by
  obtain ⟨⟨k, l, f, e⟩, h2, h3, h4, h5⟩ := L
  exact ⟨⟨k, l, f, h _ _ e⟩, h _ _ h2, h3, h4, h.seq h5⟩
theorem LS.new (L : LS K S H) {p : Addr} (h : H p = none) (o : HO) : LS K S (upd H p o) := L.same (same_upd h o)
theorem LS.put (L : LS K S H) (k l f : Int) : LS K S (upd H S.a (.lst [.ref S.nl, .int k, .int l, .ref S.sl, .int f])) := by
  obtain ⟨⟨k', l', f', e⟩, h2, h3, h4, h5⟩ := L
  refine ⟨⟨k, l, f, upd_same⟩, (upd_ne h4).trans h2, h3, h4, ?_⟩
  rcases h5 with (h | ⟨o, h⟩) | h
  · refine .inl (.inl ((upd_ne fun q => ?_).trans h))
    rw [q, e] at h
    injection h with h
    injection h with h
    cases hn : S.ns with
    | nil =>
      rw [hn] at h
      cases h
    | cons x r =>
      rw [hn] at h
      cases h
  · refine .inl (.inr ⟨o, (upd_ne fun q => ?_).trans h⟩)
    rw [q, e] at h
    cases h
  · exact .inr h
theorem Keep.put (o : HO) : Keep S H (upd H S.a o) := fun b u n h => (upd_ne n).trans h
/-- an address that is free later was free before -/
theorem Keep.free (h : Keep S H H') (L : LS K S H') {p : Addr} (hp : H' p = none) : H p = none := by
  have n : p ≠ S.a := fun e => by
    obtain ⟨k, l, f, q⟩ := L.st
    rw [e, q] at hp
    cases hp
  cases e : H p with
  | none => rfl
  | some o =>
    rw [h p o n e] at hp
    cases hp
theorem LS.ne_free (L : LS K S H) {p : Addr} (hp : H p = none) : p ≠ S.a := fun e => by
  obtain ⟨k, l, f, q⟩ := L.st
  rw [e, q] at hp
  cases hp
end
/-- the state with what is left of its budget -/
structure LB (K : PySem.W.Frag) (S : SC) (l : Int) (H : Hp) : Prop where
  ls : LS K S H
  at_ : ∃ k f : Int, H S.a = some (.lst [.ref S.nl, .int k, .int l, .ref S.sl, .int f])
section
variable {K : PySem.W.Frag} {S : SC} {l : Int} {H H' : Hp}
theorem LB.same (L : LB K S l H) (h : Same H H') : LB K S l H' := by
  obtain ⟨h1, k, f, e⟩ := L
  exact ⟨h1.same h, k, f, h _ _ e⟩
theorem LB.new (L : LB K S l H) {p : Addr} (h : H p = none) (o : HO) : LB K S l (upd H p o) := L.same (same_upd h o)
theorem LB.put (L : LB K S l H) (k l' f : Int) : LB K S l' (upd H S.a (.lst [.ref S.nl, .int k, .int l', .ref S.sl, .int f])) := ⟨L.ls.put k l' f, k, f, upd_same⟩
theorem LB.ne_free (L : LB K S l H) {p : Addr} (hp : H p = none) : p ≠ S.a := L.ls.ne_free hp
theorem LB.noTup (L : LB K S l H) {a : Addr} {xs : List V} (h : H a = some (.tup xs)) : a ≠ S.a := fun e => by
  obtain ⟨_, k, f, e'⟩ := L
  rw [e, e'] at h
  cases h
end
abbrev s__law_cell : Stmt := (top 41)
theorem sc__law_cell : FnScope ["script", "k"] ["script", "k"] (defScope s__law_cell) := ⟨rfl, rfl, rfl, by decide +kernel, rfl, by decide +kernel, by decide +kernel⟩
abbrev s__law_numbers : Stmt := (top 42)
theorem sc__law_numbers : FnScope ["cell", "many", "rest", "size", "numbers", "k", "mixed"] ["cell", "many"] (defScope s__law_numbers) := ⟨rfl, rfl, rfl, by decide +kernel, rfl, by decide +kernel, by decide +kernel⟩
abbrev s__law_state : Stmt := (top 43)
theorem sc__law_state : FnScope ["script", "numbers", "k", "parted"] ["script"] (defScope s__law_state) := ⟨rfl, rfl, rfl, by decide +kernel, rfl, by decide +kernel, by decide +kernel⟩
abbrev s__law_next : Stmt := (top 44)
theorem sc__law_next : FnScope ["state", "many", "at"] ["state", "many"] (defScope s__law_next) := ⟨rfl, rfl, rfl, by decide +kernel, rfl, by decide +kernel, by decide +kernel⟩
def sp__law_cell (K : PySem.W.Frag) : Sp := sp2 fun a b H Q _ => ∃ (sl : Addr) (ns : List Int) (k : Int), a = .ref sl ∧ b = .int k ∧ SqL K H sl (ns.map V.int) ∧ 0 ≤ k ∧ ∀ z : Int, Q (.int z) H
def sp__law_numbers : Sp := sp2 fun a b H Q _ => ∃ (z : Int) (n : Nat), a = .int z ∧ b = .int (n : Int) ∧ n ≤ 1000 ∧ ∀ (p : Addr) (xs : List Int), H p = none → xs.length = n → Q (.ref p) (upd H p (.lst (xs.map V.int)))
def sp__law_state (K : PySem.W.Frag) : Sp := sp1 fun a H Q _ => ∃ (sl : Addr) (ns : List Int), a = .ref sl ∧ SqL K H sl (ns.map V.int) ∧
  ∀ (S : SC) (l : Int) (H' : Hp), S.sl = sl → S.ns = ns → LB K S l H' → 8 ≤ l → l ≤ 37 → Same H H' → H S.a = none → Q (.ref S.a) H'
def sp__law_next (K : PySem.W.Frag) : Sp := sp2 fun a b H Q _ => ∃ (S : SC) (l : Int) (m : Int), a = .ref S.a ∧ b = .int m ∧ 0 < m ∧ LB K S l H ∧ ∀ (r : Int) (H' : Hp), 0 ≤ r → r < m → LB K S l H' → Keep S H H' → Q (.int r) H'
section
variable {P : Program} {w : World} {K : PySem.W.Frag} {mg : Str → Option Value} {base : Heap} {f : Addr} {fd : FuncData}
theorem ok__law_cell (F : FunD K "_law_cell" "_law_cell" (defArgs s__law_cell) (defBody s__law_cell) (defScope s__law_cell) [] [] (glAd "_law_cell" K) fd) (m : mg "_law_cell" = some (.ref (glAd "_law_cell" K))) (nb : Nm K mg) : Cal P w K mg base 1 "_law_cell" (sp__law_cell K) [] := by
  refine calD F m sc__law_cell (fun _ _ _ _ _ _ us hl => match us, hl with | [_, _], _ => rfl) len2 (fun cdv A outer s H vs Q E hr h => ⟨_, (pss_cons (ps_if (pt_cmpR op_lt (pv 1) (pe_callB call_len_seq (by rfl) nb.len PySem.boot_len (pa_cons (pv 0) pa_nil)) (nomark _))
    (pss_one (ps_ret (pe_ix ix_list (pv 0) (pv 1) (fun _ _ => rfl))))
    pss_nil)
    (pss_one (ps_ret pe_int))), ?_⟩)
  obtain ⟨_, _, rfl, sl, ns, k, rfl, rfl, hs, h0, h⟩ := h
  walk_at "rd"
  refine ⟨_, _, rfl, .inl hs, ?_⟩
  walk_at "rd"
  refine r_ite (fun c => ?_) (fun c => ?_)
  · rw [List.length_map] at c
    obtain ⟨v, _, e⟩ := atI_ints h0 c
    walk_at "rd"
    exact r_ixL hs e (h v)
  · walk_at "rd"
    exact h 0
theorem ok__law_numbers (F : FunD K "_law_numbers" "_law_numbers" (defArgs s__law_numbers) (defBody s__law_numbers) (defScope s__law_numbers) [] [] (glAd "_law_numbers" K) fd) (m : mg "_law_numbers" = some (.ref (glAd "_law_numbers" K))) (nb : Nm K mg) : Cal P w K mg base 1 "_law_numbers" sp__law_numbers [] := by
  refine calD F m sc__law_numbers (fun _ _ _ _ _ _ us hl => match us, hl with | [_, _], _ => rfl) len2 (fun cdv A outer s H vs Q E hr h => ⟨_, (pss_cons (ps_set (i := 2) sc__law_numbers.nd rfl (Or.inl rfl) (pe_callB call_abs (by rfl) nb.abs (by decide +kernel) (pa_cons (pv 0) pa_nil)))
    (pss_cons (ps_set (i := 3) sc__law_numbers.nd rfl (Or.inl rfl) (pv 2))
    (pss_cons (ps_set (i := 4) sc__law_numbers.nd rfl (Or.inl rfl) (pe_lst pa_nil))
    (pss_cons (ps_for PassesOwn.never rfl (pi_range1 rfl nb.range (pa_cons (pv 1) pa_nil)) (pg_name (i := 5) sc__law_numbers.nd rfl (Or.inl rfl))
    (pss_one (ps_if (PW.pt (pw_and (pt_cmpR op_ge (pv 3) (pe_op op_pow pe_int pe_int) (nomark _)) (pw_and1 (pt_cmpR op_gt (pv 2) pe_int (nomark _)))))
    (pss_cons (ps_expr (pe_bm PySem.F.plainAttrs_list PySem.F.slot_list_append PySem.F.type_list_append mt_append (pv 4) (pa_cons (pe_op op_mod (pe_callTy call_int1 (by rfl) nb.int (by decide +kernel) (pa_cons (pv 2) pa_nil)) pe_int) pa_nil)))
    (pss_one (ps_set (i := 2) sc__law_numbers.nd rfl (Or.inl rfl) (pe_op op_fdiv (pv 2) pe_int))))
    (pss_cons (ps_set (i := 6) sc__law_numbers.nd rfl (Or.inl rfl) (pe_op op_mod (pe_callTy call_int1 (by rfl) nb.int (by decide +kernel) (pa_cons (pe_op op_add (pe_op op_add (pe_op op_mul (pv 3) pe_int) (pe_op op_mul (pv 5) pe_int)) pe_int) pa_nil)) pe_int))
    (pss_cons (ps_set (i := 6) sc__law_numbers.nd rfl (Or.inl rfl) (pe_op op_mod (pe_callTy call_int1 (by rfl) nb.int (by decide +kernel) (pa_cons (pe_op op_add (pe_op op_add (pe_op op_mul (pv 6) (pv 6)) (pe_op op_mul pe_int (pv 5))) pe_int) pa_nil)) pe_int))
    (pss_one (ps_expr (pe_bm PySem.F.plainAttrs_list PySem.F.slot_list_append PySem.F.type_list_append mt_append (pv 4) (pa_cons (pe_op op_mod (pe_callTy call_int1 (by rfl) nb.int (by decide +kernel) (pa_cons (pe_op op_fdiv (pv 6) pe_int) pa_nil)) pe_int) pa_nil)))))))))
    (pss_one (ps_ret (pv 4))))))), ?_⟩)
  obtain ⟨_, _, rfl, z, n, rfl, rfl, hn, h⟩ := h
  walk_at "rd"
  refine ⟨Nat.zero_le _, fun p hp => ?_⟩
  walk_at "rd"
  refine r_turns (by omega) (by omega) (fun i σ H' => ∃ (rest size : Int) (xs : List Int) (k mx : Option V), σ = [some (.int z), some (.int (n : Int)), some (.int rest), some (.int size), some (.ref p), k, mx] ∧ xs.length = i ∧ H' = upd H p (.lst (xs.map V.int))) ⟨_, _, [], none, none, rfl, rfl, rfl⟩ ?_ ?_
  · rintro i σ _ hi ⟨rest, size, xs, k, mx, rfl, hl, rfl⟩
    have hsz : (xs.map V.int).length < sizeLine := small1000 (by rw [List.length_map]; omega)
    have app : ∀ y : Int, upd (upd H p (.lst (xs.map V.int))) p (.lst (xs.map V.int ++ [.int y])) = upd H p (.lst ((xs ++ [y]).map V.int)) := fun y => by
      rw [upd_upd, List.map_append]
      rfl
    have two : ∀ r : Int, ∀ (σ' : St) (k mx : Option V) (rest size : Int), σ' = [some (.int z), some (.int (n : Int)), some (.int rest), some (.int size), some (.ref p), k, mx] → ∃ (rest size : Int) (xs' : List Int) (k mx : Option V), σ' = [some (.int z), some (.int (n : Int)), some (.int rest), some (.int size), some (.ref p), k, mx] ∧ xs'.length = i + 1 ∧ upd (upd H p (.lst (xs.map V.int))) p (.lst (xs.map V.int ++ [.int r])) = upd H p (.lst (xs'.map V.int)) := fun r σ' k mx rest size e =>
      ⟨rest, size, xs ++ [r], k, mx, e, by rw [List.length_append, hl]; rfl, app r⟩
    walk_at "rd"
    refine r_ite (fun c1 => ?_) (fun c1 => ?_)
    · walk_at "rd"
      refine r_ite (fun c2 => ?_) (fun c2 => ?_)
      · walk_at "rd"
        refine ⟨tyL upd_same, ?_⟩
        walk_at "rd"
        refine r_app upd_same hsz ?_
        walk_at "rd"
        exact two _ _ _ _ _ _ rfl
      · walk_at "rd"
        refine r_I (.inl ⟨by omega, by omega⟩) ?_
        walk_at "rd"
        refine ⟨tyL upd_same, ?_⟩
        walk_at "rd"
        refine r_app upd_same hsz ?_
        walk_at "rd"
        exact two _ _ _ _ _ _ rfl
    · walk_at "rd"
      refine r_I (.inl ⟨by omega, by omega⟩) ?_
      walk_at "rd"
      refine ⟨tyL upd_same, ?_⟩
      walk_at "rd"
      refine r_app upd_same hsz ?_
      walk_at "rd"
      exact two _ _ _ _ _ _ rfl
  · rintro σ _ ⟨rest, size, xs, k, mx, rfl, hl, rfl⟩
    walk_at "rd"
    exact h p xs hp (by omega)
theorem ok__law_next (F : FunD K "_law_next" "_law_next" (defArgs s__law_next) (defBody s__law_next) (defScope s__law_next) [] [] (glAd "_law_next" K) fd) (m : mg "_law_next" = some (.ref (glAd "_law_next" K))) (nb : Nm K mg) : Cal P w K mg base 1 "_law_next" (sp__law_next K) [] := by
  refine calD F m sc__law_next (fun _ _ _ _ _ _ us hl => match us, hl with | [_, _], _ => rfl) len2 (fun cdv A outer s H vs Q E hr h => ⟨_, (pss_cons (ps_set (i := 2) sc__law_next.nd rfl (Or.inl rfl) (pe_ix ix_list (pv 0) pe_int (fun _ _ => rfl)))
    (pss_cons (ps_asg (pe_op op_add (pv 2) pe_int) (pg_sub (pv 0) pe_int set_list))
    (pss_one (ps_ret (pe_op op_mod (pe_callTy call_int1 (by rfl) nb.int (by decide +kernel) (pa_cons (pe_op op_add (pe_ix ix_list (pe_ix ix_list (pv 0) pe_int (fun _ _ => rfl)) (pe_op op_mod (pv 2) pe_int) (fun _ _ => rfl)) (pe_op op_mul pe_int (pe_op op_fdiv (pv 2) pe_int))) pa_nil)) (pv 1)))))), ?_⟩)
  obtain ⟨_, _, rfl, S, l, mm, rfl, rfl, h0, L, h⟩ := h
  obtain ⟨L0, k, f5, e⟩ := L
  have L : LB K S l H := ⟨L0, k, f5, e⟩
  walk_at "rd"
  refine r_ixL (SqL.of e) rfl ?_
  walk_at "rd"
  refine r_setL e rfl ?_
  walk_at "rd"
  have L2 := L.put (k + 1) l f5
  obtain ⟨v, _, ev⟩ := atI_ints (ns := S.nums) (k := k % 120) (by omega) (by rw [L0.len]; omega)
  refine r_ixL (SqL.of upd_same) rfl ?_
  walk_at "rd"
  refine r_ixL (SqL.of L2.ls.nm) ev ?_
  walk_at "rd"
  refine r_I h0 ?_
  exact h _ _ (Int.emod_nonneg _ (by omega)) (Int.emod_lt_of_pos _ h0) L2 (Keep.put _)
theorem ok__law_state (F : FunD K "_law_state" "_law_state" (defArgs s__law_state) (defBody s__law_state) (defScope s__law_state) [] [] (glAd "_law_state" K) fd) (m : mg "_law_state" = some (.ref (glAd "_law_state" K))) (nb : Nm K mg) (c__law_cell : Cal P w K mg base 1 "_law_cell" (sp__law_cell K) []) (c__law_numbers : Cal P w K mg base 1 "_law_numbers" sp__law_numbers []) : Cal P w K mg base 2 "_law_state" (sp__law_state K) [] := by
  refine calD F m sc__law_state (fun _ _ _ _ _ _ us hl => match us, hl with | [_], _ => rfl) len1 (fun cdv A outer s H vs Q E hr h => ⟨_, (pss_cons (ps_set (i := 1) sc__law_state.nd rfl (Or.inl rfl) (pe_lst pa_nil))
    (pss_cons (ps_setLc (i := 3) (own := [("k", 2)]) (g := gName 2) (tt := tYes) rfl sc__law_state.nd rfl rfl (sw_true rfl rfl rfl (by decide +kernel)) (pi_range1 rfl nb.range (pa_cons pe_int pa_nil)) (blkOk_by (N := ["script", "numbers", "k", "parted"]) (sc := defScope s__law_state) (by decide +kernel)) (fun _ _ _ _ _ => pg_name (i := 2) sc__law_state.nd rfl (Or.inl rfl)) (fun _ _ _ _ _ => pts_nil) (fun _ _ _ _ _ => (pe_c c__law_numbers hr (by decide) rfl (pa_cons (pe_op op_add (pe_callB call_abs (by rfl) nb.abs (by decide +kernel) (pa_cons (pe_c c__law_cell hr (by decide) rfl (pa_cons (pv 0) (pa_cons (pv 2) pa_nil))) pa_nil)) (pe_op op_mul pe_int (pv 2))) (pa_cons pe_int pa_nil)))))
    (pss_cons (ps_for PassesOwn.never rfl (pi_range1 rfl nb.range (pa_cons pe_int pa_nil)) (pg_name (i := 2) sc__law_state.nd rfl (Or.inl rfl))
    (pss_cons (ps_expr (pe_bm PySem.F.plainAttrs_list PySem.F.slot_list_append PySem.F.type_list_append mt_append (pv 1) (pa_cons (pe_ix ix_list (pe_ix ix_list (pv 3) pe_int (fun _ _ => rfl)) (pv 2) (fun _ _ => rfl)) pa_nil)))
    (pss_cons (ps_expr (pe_bm PySem.F.plainAttrs_list PySem.F.slot_list_append PySem.F.type_list_append mt_append (pv 1) (pa_cons (pe_ix ix_list (pe_ix ix_list (pv 3) pe_int (fun _ _ => rfl)) (pv 2) (fun _ _ => rfl)) pa_nil)))
    (pss_one (ps_expr (pe_bm PySem.F.plainAttrs_list PySem.F.slot_list_append PySem.F.type_list_append mt_append (pv 1) (pa_cons (pe_ix ix_list (pe_ix ix_list (pv 3) pe_int (fun _ _ => rfl)) (pv 2) (fun _ _ => rfl)) pa_nil)))))))
    (pss_one (ps_ret (pe_lst (pa_cons (pv 1) (pa_cons pe_int (pa_cons (pe_op op_add pe_int (pe_op op_mod (pe_callTy call_int1 (by rfl) nb.int (by decide +kernel) (pa_cons (pe_ix ix_list (pv 1) pe_int (fun _ _ => rfl)) pa_nil)) pe_int)) (pa_cons (pv 0) (pa_cons pe_int pa_nil))))))))))), ?_⟩)
  obtain ⟨_, rfl, sl, ns, rfl, hs, h⟩ := h
  walk_at "rd"
  refine ⟨Nat.zero_le _, fun p hp => ?_⟩
  walk_at "rd"
  refine r_lcR 3 (by decide) (fun D hD => ?_) (fun R hR => hR)
  have sp0 := same_upd hp (.lst [])
  have pD : p ≠ D := fun e => by
    rw [← e, upd_same] at hD
    cases hD
  refine lc_range (fun i H' => ∃ ps : List Addr, H' D = some (.lst (ps.map V.ref)) ∧ ps.length = i ∧ (∀ q ∈ ps, q ≠ D ∧ ∃ xs : List Int, H' q = some (.lst (xs.map V.int)) ∧ xs.length = 40) ∧ Same (upd H p (.lst [])) H') ⟨[], upd_same, rfl, fun q hq => (by cases hq), same_upd hD _⟩ ?_ ?_
  · rintro i H' hi ⟨ps, e1, e2, e3, e4⟩
    walk_at "rd"
    refine ⟨rfl, ?_⟩
    walk_at "rd"
    have hs' : SqL K H' sl (ns.map V.int) := e4.seq (sp0.seq hs)
    refine ⟨_, _, rfl, sl, ns, _, rfl, rfl, hs', by omega, fun z => ?_⟩
    walk_at "rd"
    refine ⟨_, _, rfl, _, 40, rfl, rfl, by decide, fun q xs hq hx => ?_⟩
    have Dq : D ≠ q := ne_of_none e1 hq
    refine ⟨_, (upd_ne Dq).trans e1, small1000 (by rw [List.length_map]; omega), ps ++ [q], ?_, by rw [List.length_append, e2]; rfl, ?_, ?_⟩
    · rw [upd_same, List.map_append]
      rfl
    · intro q' hq'
      rcases List.mem_append.mp hq' with h1 | h1
      · obtain ⟨n1, xs', x1, x2⟩ := e3 q' h1
        exact ⟨n1, xs', by rw [upd_ne n1, upd_ne (ne_of_none x1 hq)]; exact x1, x2⟩
      · have e5 : q' = q := by simpa using h1
        subst e5
        exact ⟨Ne.symm Dq, xs, by rw [upd_ne (Ne.symm Dq), upd_same], hx⟩
    · intro b o hb
      have hb2 := e4 b o hb
      rw [upd_ne (ne_of_none hb hD), upd_ne (ne_of_none hb2 hq)]
      exact hb2
  · rintro H' ⟨ps, e1, e2, e3, e4⟩
    walk_at "rd"
    obtain ⟨p0, p1, p2, rfl⟩ : ∃ p0 p1 p2, ps = [p0, p1, p2] := match ps, e2 with | [a, b, c], _ => ⟨a, b, c, rfl⟩
    obtain ⟨_, x0, y0, z0⟩ := e3 p0 (by simp)
    obtain ⟨_, x1, y1, z1⟩ := e3 p1 (by simp)
    obtain ⟨_, x2, y2, z2⟩ := e3 p2 (by simp)
    have hp' : H' p = some (.lst []) := e4 _ _ upd_same
    have ne0 : ∀ {q : Addr} {xs : List Int}, H' q = some (.lst (xs.map V.int)) → xs.length = 40 → q ≠ p := fun {q xs} h1 h2 h3 => by
      rw [h3, hp'] at h1
      injection h1 with h1
      injection h1 with h1
      have h4 := congrArg List.length h1
      rw [List.length_map, h2] at h4
      cases h4
    have n0 := ne0 y0 z0
    have n1 := ne0 y1 z1
    have n2 := ne0 y2 z2
    have nD : D ≠ p := Ne.symm pD
    have fit : ∀ (xs : List Int) (i : Nat), xs.length = 40 → (i : Int) < 40 → ∃ v, atI (xs.map V.int) (i : Int) = some (.int v) := fun xs i h1 h2 => by
      obtain ⟨v, _, e⟩ := atI_ints (ns := xs) (k := (i : Int)) (by omega) (by omega)
      exact ⟨v, e⟩
    refine r_turns (by decide) (by decide) (fun i σ H2 => ∃ (zs : List Int) (kk : Option V), σ = [some (.ref sl), some (.ref p), kk, some (.ref D)] ∧ zs.length = 3 * i ∧ H2 = upd H' p (.lst (zs.map V.int))) ⟨[], none, rfl, rfl, ?_⟩ ?_ ?_
    · funext b
      by_cases c : b = p
      · subst c
        rw [upd_same, hp']
        rfl
      · rw [upd_ne c]
    · rintro i σ _ hi ⟨zs, kk, rfl, hz, rfl⟩
      obtain ⟨v0, a0⟩ := fit x0 i z0 hi
      obtain ⟨v1, a1⟩ := fit x1 i z1 hi
      obtain ⟨v2, a2⟩ := fit x2 i z2 hi
      walk_at "rd"
      refine ⟨tyL upd_same, ?_⟩
      walk_at "rd"
      refine r_ixL (SqL.of ((upd_ne nD).trans e1)) rfl ?_
      walk_at "rd"
      refine r_ixL (SqL.of ((upd_ne n0).trans y0)) a0 ?_
      walk_at "rd"
      refine r_app upd_same (small1000 (by rw [List.length_map]; omega)) ?_
      rw [upd_upd]
      walk_at "rd"
      refine ⟨tyL upd_same, ?_⟩
      walk_at "rd"
      refine r_ixL (SqL.of ((upd_ne nD).trans e1)) rfl ?_
      walk_at "rd"
      refine r_ixL (SqL.of ((upd_ne n1).trans y1)) a1 ?_
      walk_at "rd"
      refine r_app upd_same (small1000 (by rw [List.length_append, List.length_map]; show zs.length + 1 ≤ 1000; omega)) ?_
      rw [upd_upd]
      walk_at "rd"
      refine ⟨tyL upd_same, ?_⟩
      walk_at "rd"
      refine r_ixL (SqL.of ((upd_ne nD).trans e1)) rfl ?_
      walk_at "rd"
      refine r_ixL (SqL.of ((upd_ne n2).trans y2)) a2 ?_
      walk_at "rd"
      refine r_app upd_same (small1000 (by rw [List.length_append, List.length_append, List.length_map]; show zs.length + 1 + 1 ≤ 1000; omega)) ?_
      rw [upd_upd]
      exact ⟨zs ++ [v0] ++ [v1] ++ [v2], _, rfl, by simp [hz]; omega, by simp⟩
    · rintro σ _ ⟨zs, kk, rfl, hz, rfl⟩
      walk_at "rd"
      obtain ⟨v0, _, ev0⟩ := atI_ints (ns := zs) (k := 0) (by decide) (by omega)
      refine r_ixL (SqL.of upd_same) ev0 ?_
      walk_at "rd"
      refine ⟨(by show 5 ≤ sizeLine; decide), fun a ha => ?_⟩
      have sa := same_upd ha (.lst [.ref p, .int 1, .int (8 + v0 % 30), .ref sl, .int 3])
      have pa : p ≠ a := ne_of_none upd_same ha
      have all : Same H (upd H' p (.lst (zs.map V.int))) := fun b o hb => by
        rw [upd_ne (ne_of_none hb hp)]
        exact e4 _ _ (sp0 _ _ hb)
      have L : LS K ⟨a, p, sl, zs, ns⟩ (upd (upd H' p (.lst (zs.map V.int))) a (.lst [.ref p, .int 1, .int (8 + v0 % 30), .ref sl, .int 3])) := ⟨⟨1, _, 3, upd_same⟩, (upd_ne pa).trans upd_same, by rw [hz]; rfl, pa, sa.seq (all.seq hs)⟩
      have := Int.emod_nonneg v0 (show (30 : Int) ≠ 0 by decide)
      have := Int.emod_lt_of_pos v0 (show (0 : Int) < 30 by decide)
      exact h _ (8 + v0 % 30) _ rfl rfl ⟨L, 1, 3, upd_same⟩ (by omega) (by omega) (all.trans sa) (all.free ha)
end

/-! ### draws that keep the budget -/
section
variable {K : PySem.W.Frag} {S : SC} {l : Int} {σ : St} {H : Hp} {Q : VK} {E : XK}
theorem b_next {m : Int} (L : LB K S l H) (hm : 0 < m) (h : ∀ (r : Int) (H' : Hp), 0 ≤ r → r < m → LB K S l H' → Keep S H H' → Q (.int r) H') : sp__law_next K ([.ref S.a, .int m] ++ []) H Q E := ⟨_, _, rfl, S, l, m, rfl, rfl, hm, L, h⟩
/-- [x, y, ..][_law_next(state, n)] -/
theorem b_pick {xs : List V} {n : Int} {i : Nat} (L : LB K S l H) (e : σ[i]? = some (some (.ref S.a))) (hl : xs.length ≤ sizeLine) (hn : 0 < n) (hx : (xs.length : Int) = n)
    (h : ∀ (v : V) (H' : Hp), v ∈ xs → LB K S l H' → Keep S H H' → Q v H') :
    xs.length ≤ sizeLine ∧ ∀ p, H p = none → tCall (sp__law_next K) [] E (tCons (tVar i) (tCons (tC (.int n)) tNil)) σ (upd H p (.lst xs)) fun y H2 => rIxL K (.ref p) y H2 Q := by
  refine ⟨hl, fun p hp => ⟨_, e, ?_⟩⟩
  show sp__law_next K ([.ref S.a, .int n] ++ []) (upd H p (.lst xs)) (fun y H2 => rIxL K (.ref p) y H2 Q) E
  refine b_next (L.new hp _) hn fun r H' h0 h1 L' k => ?_
  have hr : r.toNat < xs.length := by omega
  have er : r = ((r.toNat : Nat) : Int) := by omega
  refine ⟨p, xs, r, xs[r.toNat], rfl, rfl, SqL.of (k _ _ (L.ne_free hp) upd_same), ?_, ?_⟩
  · have q := atI_nat (xs := xs) (j := r.toNat) (v := xs[r.toNat]) (List.getElem?_eq_getElem hr)
    rw [← er] at q
    exact q
  · exact h _ _ (List.getElem_mem hr) L' ((Keep.of (same_upd hp _)).trans k)
/-- the same, all of them numbers from lo to hi -/
theorem b_pickI {xs : List V} {n : Int} {i : Nat} (lo hi : Int) (L : LB K S l H) (e : σ[i]? = some (some (.ref S.a))) (hl : xs.length ≤ sizeLine) (hn : 0 < n) (hx : (xs.length : Int) = n) (hz : ∀ v ∈ xs, ∃ z, v = V.int z ∧ lo ≤ z ∧ z ≤ hi)
    (h : ∀ (z : Int) (H' : Hp), lo ≤ z → z ≤ hi → V.int z ∈ xs → LB K S l H' → Keep S H H' → Q (.int z) H') :
    xs.length ≤ sizeLine ∧ ∀ p, H p = none → tCall (sp__law_next K) [] E (tCons (tVar i) (tCons (tC (.int n)) tNil)) σ (upd H p (.lst xs)) fun y H2 => rIxL K (.ref p) y H2 Q :=
  b_pick L e hl hn hx fun v H' hv L' k => by
    obtain ⟨z, rfl, h1, h2⟩ := hz v hv
    exact h z H' h1 h2 hv L' k
theorem bl_nil {p : V → Prop} : ∀ v ∈ ([] : List V), p v := fun v hv => by cases hv
theorem bl_cons {p : V → Prop} {x : V} {xs : List V} (h : p x) (t : ∀ v ∈ xs, p v) : ∀ v ∈ x :: xs, p v := fun v hv => by
  rcases List.mem_cons.mp hv with e | e
  · rw [e]
    exact h
  · exact t v e
theorem b_new {o : HO} {p : Addr} (L : LB K S l H) (hp : H p = none) : ∃ H', upd H p o = H' ∧ LB K S l H' ∧ Same H H' ∧ H' p = some o ∧ p ≠ S.a := ⟨_, rfl, L.new hp o, same_upd hp o, upd_same, L.ne_free hp⟩
end

/-! ### slices, comprehensions, objects: rules of general use -/
section
variable {σ : St} {H : Hp} {n b c : St → Hp → Prop} {r : VK} {Q : VK} {K : Frg} {a C dx : Addr} {fs : List (Str × V)} {f : Str} {v : V}
theorem r_fsetK {R : Hp → Prop} {fs' : List (Str × V)} (h : H a = some (.ins C dx fs)) (cl : Cls K C) (na : NoAttr K C f) (hl : fs.length < 1000) (e : putF f v fs = fs') (q : ∀ H', H' a = some (.ins C dx fs') → (∀ b, b ≠ a → H' b = H b) → R H') :
    ∃ a' C dx fs, V.ref a = .ref a' ∧ H a' = some (.ins C dx fs) ∧ Cls K C ∧ NoAttr K C f ∧ fs.length < 1000 ∧ R (upd H a' (.ins C dx (putF f v fs))) := r_fset h cl na hl e (q _ upd_same fun _ hb => upd_ne hb)
theorem r_appK {p : Addr} {xs : List V} {y : V} (h : H p = some (.lst xs)) (hl : xs.length < sizeLine) (q : ∀ H', H' p = some (.lst (xs ++ [y])) → (∀ b, b ≠ p → H' b = H b) → Q .non H') : rAppend (.ref p) [y] H Q := r_app h hl (q _ upd_same fun _ hb => upd_ne hb)
theorem r_gfldV {R : St → Hp → Prop} {fs' : List (Str × V)} {k : Nat} (ek : σ[k]? = some (some (.ref a))) (h : H a = some (.ins C dx fs)) (cl : Cls K C) (na : NoAttr K C f) (hl : fs.length < 1000) (e : putF f v fs = fs') (q : ∀ H', H' a = some (.ins C dx fs') → (∀ b, b ≠ a → H' b = H b) → R σ H') : gFld K (tVar k) f v σ H R :=
  ⟨_, ek, a, C, dx, fs, rfl, h, cl, na, hl, by rw [e]; exact q _ upd_same fun _ hb => upd_ne hb⟩
end
def But (a l : Addr) (H H' : Hp) : Prop := ∀ b u, b ≠ a → b ≠ l → H b = some u → H' b = some u
theorem map_snoc (ps : List Int) (x : Int) : ps.map V.int ++ [V.int x] = (ps ++ [x]).map V.int := by simp
theorem dp_tup {K : Frg} {H : Hp} {v : V} {ds : List PyData} (h : Dp K H v (.tuple ds)) : ∃ a xs, v = .ref a ∧ SqT K H a xs ∧ DpAll K H xs ds := by
  cases h
  exact ⟨_, _, rfl, by assumption, by assumption⟩
theorem dp_get {K : Frg} {H : Hp} : ∀ {xs : List V} {ds : List PyData} {i : Nat} {x : V}, DpAll K H xs ds → xs[i]? = some x → ∃ d, ds[i]? = some d ∧ Dp K H x d
  | [], _, _, _, _, e => by cases e
  | x :: xs, _, 0, _, .cons h t, e => by
    cases e
    exact ⟨_, rfl, h⟩
  | x :: xs, _, i + 1, _, .cons h t, e => by
    obtain ⟨d, e1, h1⟩ := dp_get (i := i) t e
    exact ⟨d, e1, h1⟩
theorem dp_len {K : Frg} {H : Hp} : ∀ {xs : List V} {ds : List PyData}, DpAll K H xs ds → xs.length = ds.length
  | [], _, .nil => rfl
  | _ :: _, _, .cons _ t => congrArg (· + 1) (dp_len t)
theorem dp_ints {K : Frg} {H : Hp} : ∀ {xs : List V} (ns : List Int), DpAll K H xs (ns.map PyData.int) → xs = ns.map V.int
  | _, [], h => by
    cases h
    rfl
  | _, n :: ns, h => by
    cases h with
    | cons h t =>
      cases h
      rw [dp_ints ns t]
      rfl
theorem dpa_ints {K : Frg} {H : Hp} : ∀ (ns : List Int), DpAll K H (ns.map V.int) (ns.map PyData.int)
  | [] => .nil
  | n :: ns => .cons (.int n) (dpa_ints ns)
theorem shaped_ints (ns : List Int) : SeqAt.shaped (.list (ns.map PyData.int)) = true := PySem.W.ke_shaped_ints ns
theorem ints_get {cs : List Int} {i : Nat} {x : V} (e : (cs.map V.int)[i]? = some x) : ∃ c, cs[i]? = some c ∧ x = .int c ∧ cs.take (i + 1) = cs.take i ++ [c] := by
  rw [List.getElem?_map] at e
  obtain ⟨c, h, rfl⟩ := Option.map_eq_some_iff.mp e
  refine ⟨c, h, rfl, ?_⟩
  rw [List.take_succ, h]
  rfl
theorem ints_step {cs : List Int} {i : Nat} {c : Int} (h : cs[i]? = some c) : cs.take (i + 1) = cs.take i ++ [c] := by
  rw [List.take_succ, h]
  rfl
/-- the state stays when a place changes that was free at an earlier heap -/
theorem LS.away {K : PySem.W.Frag} {S : SC} {H1 H' : Hp} (L1 : LS K S H1) {D : Addr} (hD : H1 D = none) (L : LS K S H') (o : HO) : LS K S (upd H' D o) := by
  obtain ⟨⟨k, l, f, e⟩, h2, h3, h4, h5⟩ := L1
  obtain ⟨⟨k', l', f', e'⟩, h2', _, _, h5'⟩ := L
  have n : ∀ {b : Addr} {u : HO}, H1 b = some u → b ≠ D := fun h z => by
    rw [z, hD] at h
    cases h
  refine ⟨⟨k', l', f', (upd_ne (n e)).trans e'⟩, (upd_ne (n h2)).trans h2', h3, h4, ?_⟩
  rcases h5 with (h | ⟨u, h⟩) | h
  · exact seq_upd h5' (n h)
  · exact seq_upd h5' (n h)
  · exact .inr h
theorem r_sl {σ : St} {H : Hp} {Q : VK} {r : V → Option Int → Option Int → Hp → VK → Prop} {te : TE} {tl th : TO} (h : te σ H fun x H1 => tl σ H1 fun l H2 => th σ H2 fun u H3 => r x l u H3 Q) : tSl r te tl th σ H Q := h
theorem r_part {σ : St} {H : Hp} {t : TE} {Q : Option Int → Hp → Prop} (h : t σ H fun x H1 => ∃ i, x = .int i ∧ Q (some i) H1) : tPart t σ H Q := h
theorem r_some {i : Int} {Q : Option Int → Prop} (h : Q (some i)) : ∃ j, V.int i = .int j ∧ Q (some j) := ⟨i, rfl, h⟩
theorem r_nopart {σ : St} {H : Hp} {Q : Option Int → Hp → Prop} (h : Q none H) : tNoPart σ H Q := h
theorem r_slL {K : PySem.W.Frag} {p : Addr} {xs : List V} {lo hi : Option Int} {H : Hp} {Q : VK} (hs : SqL K H p xs) (h : ∀ q, H q = none → Q (.ref q) (upd H q (.lst (cutV xs lo hi)))) : rSlL K (.ref p) lo hi H Q := ⟨p, xs, rfl, hs, h⟩
theorem cut_tl {v : V} {xs : List V} : cutV (v :: xs) (some 1) none = xs := by
  have e : HT.sIx (v :: xs).length 0 (some 1) = 1 := (HT.sIx_nat (v :: xs).length 0 1).trans (by show min 1 (xs.length + 1) = 1; omega)
  unfold cutV
  rw [e, HT.sIx_none]
  show xs.take (xs.length + 1 - 1) = xs
  simp
theorem r_min2 {σ : St} {H : Hp} {Q : VK} {K : PySem.W.Frag} {p : Addr} {x y : Int} (hs : H p = some (.lst [.int x, .int y])) (h : Q (.int (min x y)) H) : rMin K [.ref p] H Q := by
  refine ⟨p, [x, y], rfl, SqL.of hs, by show 0 < 2; decide, fun m hm hle => ?_⟩
  have h1 := hle x (by simp)
  have h2 := hle y (by simp)
  have e : m = min x y := by
    rcases List.mem_cons.mp hm with e | e
    · omega
    · rcases List.mem_cons.mp e with e | e
      · omega
      · cases e
  rw [e]
  exact h
theorem at0 {v : V} {xs : List V} : atI (v :: xs) 0 = some v := atI_nat (xs := v :: xs) (j := 0) rfl
theorem cut_ints (zs : List Int) (lo hi : Option Int) : ∃ ws : List Int, cutV (zs.map V.int) lo hi = ws.map V.int ∧ (∀ x ∈ ws, x ∈ zs) ∧ ws.length ≤ zs.length := by
  refine ⟨(zs.drop (HT.sIx (zs.map V.int).length 0 lo)).take (HT.sIx (zs.map V.int).length (zs.map V.int).length hi - HT.sIx (zs.map V.int).length 0 lo), ?_, ?_, ?_⟩
  · unfold cutV
    rw [List.map_take, List.map_drop]
  · intro x hx
    exact List.mem_of_mem_drop (List.mem_of_mem_take hx)
  · rw [List.length_take, List.length_drop]
    omega
/-- a slice of a row of numbers in a slot -/
theorem d_cut {σ : St} {H : Hp} {Q : VK} {K : PySem.W.Frag} {k : Nat} {o : Addr} {zs : List Int} {tl th : TO} (lo hi : Option Int) (e : σ[k]? = some (some (.ref o))) (g : H o = some (.lst (zs.map V.int))) (hl : ∀ R : Option Int → Hp → Prop, R lo H → tl σ H R) (hh : ∀ R : Option Int → Hp → Prop, R hi H → th σ H R)
    (h : ∀ (q : Addr) (ws : List Int), H q = none → (∀ x ∈ ws, x ∈ zs) → ws.length ≤ zs.length → Q (.ref q) (upd H q (.lst (ws.map V.int)))) : tSl (rSlL K) (tVar k) tl th σ H Q := by
  refine r_sl ⟨_, e, hl _ (hh _ ?_)⟩
  obtain ⟨ws, e1, e2, e3⟩ := cut_ints zs lo hi
  refine r_slL (SqL.of g) fun q nq => ?_
  rw [e1]
  exact h q ws nq e2 e3
theorem cat_ints (a b : List Int) : a.map V.int ++ b.map V.int = (a ++ b).map V.int := by simp
theorem LS.but {K : PySem.W.Frag} {S : SC} {H1 H H' : Hp} (L1 : LS K S H1) {m l : Addr} (hm : H1 m = none) (hl : H1 l = none) (L : LS K S H) (b : But m l H H') : LS K S H' := by
  obtain ⟨⟨k, l', f, e⟩, h2, h3, h4, h5⟩ := L1
  obtain ⟨⟨k', l'', f', e'⟩, h2', _, _, h5'⟩ := L
  have n1 : ∀ {b : Addr} {u : HO}, H1 b = some u → b ≠ m := fun h z => by
    rw [z, hm] at h
    cases h
  have n2 : ∀ {b : Addr} {u : HO}, H1 b = some u → b ≠ l := fun h z => by
    rw [z, hl] at h
    cases h
  refine ⟨⟨k', l'', f', b _ _ (n1 e) (n2 e) e'⟩, b _ _ (n1 h2) (n2 h2) h2', h3, h4, ?_⟩
  have go : S.sl ≠ m → S.sl ≠ l → SqL K H' S.sl (S.ns.map V.int) := fun q1 q2 => by
    rcases h5' with (h | ⟨u, h⟩) | h
    · exact .inl (.inl (b _ _ q1 q2 h))
    · exact .inl (.inr ⟨u, b _ _ q1 q2 h⟩)
    · exact .inr h
  rcases h5 with (h | ⟨u, h⟩) | h
  · exact go (n1 h) (n2 h)
  · exact go (n1 h) (n2 h)
  · exact .inr h
theorem But.refl (a l : Addr) (H : Hp) : But a l H H := fun _ _ _ _ z => z
theorem But.trans {a l : Addr} {H H1 H2 : Hp} (x : But a l H H1) (y : But a l H1 H2) : But a l H H2 := fun b u p q z => y b u p q (x b u p q z)
theorem But.same {a l : Addr} {H H1 : Hp} (x : Same H H1) : But a l H H1 := fun b u _ _ z => x b u z
theorem cut_to {zs : List Int} {d : Nat} (h : d ≤ zs.length) : cutV (zs.map V.int) none (some (d : Nat)) = (zs.take d).map V.int := by
  unfold cutV
  rw [HT.sIx_nat, HT.sIx_none, List.length_map, Nat.min_eq_left h, List.drop_zero, Nat.sub_zero, List.map_take]
theorem r_lcL {σ : St} {H : Hp} {Q : VK} {K : PySem.W.Frag} {tl : TE} {g : TG} {tt : TT} {te : TE} {vs : List Nat} (h : tl σ H fun x H1 => ∃ a, x = .ref a ∧ (∃ xs, SqL K H1 a xs) ∧ ∀ D, H1 D = none → ∃ W : Nat → Nat → Hp → Prop, (∃ m, W 0 m (upd H1 D (.lst []))) ∧ ∀ i m H, W i m H →
  ((Itl K a).stop i H ∧ Q (.ref D) H) ∨ ((Itl K a).go i H ∧ ∃ Nx : Hp → Prop, (∀ H', Nx H' → ∃ m', m' < m ∧ W (i + 1) m' H') ∧ ∀ x H', (Itl K a).yld i H x H' → g x (wipe σ vs) H' fun σ2 H2 => wipe σ2 vs = wipe σ vs ∧ tt σ2 H2 fun b H3 =>
    if b = true then te σ2 H3 fun y H4 => ∃ acc, H4 D = some (.lst acc) ∧ acc.length < sizeLine ∧ Nx (upd H4 D (.lst (acc ++ [y]))) else Nx H3)) : tLc (iList K tl) g tt te vs σ H Q := h
/-- a for over range(j), what stands behind a break known -/
theorem r_turnsB {σ : St} {H : Hp} {n : St → Hp → Prop} {r : VK} {j : Int} {g : TG} {tb : TS} (h1 : -(2 ^ 62) ≤ j) (h2 : j < 2 ^ 62) (M : St → Hp → Prop) (hM : ∀ σ H, M σ H → n σ H) (Pv : Nat → St → Hp → Prop) (h0 : Pv 0 σ H)
    (hs : (∀ σ H, M σ H → n σ H) → ∀ (i : Nat) σ H, (i : Int) < j → Pv i σ H → g (.int (i : Int)) σ H fun σ2 H2 => tb ⟨Pv (i + 1), r, n, Pv (i + 1)⟩ σ2 H2) (hd : ∀ σ H, Pv j.toNat σ H → M σ H) :
    -(2 ^ 62) ≤ j ∧ j < 2 ^ 62 ∧ ∃ W : Nat → Nat → St → Hp → Prop, (∃ m, W 0 m σ H) ∧ ∀ i m σ H, W i m σ H →
    ((Itr 0 j.toNat).stop i H ∧ n σ H) ∨ ((Itr 0 j.toNat).go i H ∧ ∃ N : St → Hp → Prop, (∀ σ' H', N σ' H' → ∃ m', m' < m ∧ W (i + 1) m' σ' H') ∧ ∀ x H', (Itr 0 j.toNat).yld i H x H' → g x σ H' fun σ2 H2 => tb ⟨N, r, n, N⟩ σ2 H2) :=
  r_turns h1 h2 Pv h0 (hs hM) fun σ H p => hM σ H (hd σ H p)
theorem at_end (a : List Int) (v : Int) : atI ((a ++ [v]).map V.int) ((((a ++ [v]).length : Nat) : Int) - 1) = some (.int v) := by
  rw [show (((a ++ [v]).length : Nat) : Int) - 1 = ((a.length : Nat) : Int) by rw [List.length_append]; show ((a.length + 1 : Nat) : Int) - 1 = _; omega]
  refine atI_nat ?_
  rw [List.getElem?_map, List.getElem?_append_right (Nat.le_refl _), Nat.sub_self]
  rfl
theorem r_lc0 {σ : St} {H : Hp} {Q : VK} {ta : TA} {g : TG} {tt : TT} {te : TE} {vs : List Nat} (h : ta σ H fun ws H1 => ∃ j : Int, ws = [.int j] ∧ -(2 ^ 62) ≤ j ∧ j < 2 ^ 62 ∧ ∀ D, H1 D = none → ∃ W : Nat → Nat → Hp → Prop, (∃ m, W 0 m (upd H1 D (.lst []))) ∧ ∀ i m H, W i m H →
  ((Itr 0 j.toNat).stop i H ∧ Q (.ref D) H) ∨ ((Itr 0 j.toNat).go i H ∧ ∃ Nx : Hp → Prop, (∀ H', Nx H' → ∃ m', m' < m ∧ W (i + 1) m' H') ∧ ∀ x H', (Itr 0 j.toNat).yld i H x H' → g x (wipe σ vs) H' fun σ2 H2 => wipe σ2 vs = wipe σ vs ∧ tt σ2 H2 fun b H3 =>
    if b = true then te σ2 H3 fun y H4 => ∃ acc, H4 D = some (.lst acc) ∧ acc.length < sizeLine ∧ Nx (upd H4 D (.lst (acc ++ [y]))) else Nx H3)) : tLc (iRng1 ta) g tt te vs σ H Q := h

/-! ### more rules of general use -/
theorem r_lcT {σ : St} {H : Hp} {Q : VK} {K : PySem.W.Frag} {tl : TE} {g : TG} {tt : TT} {te : TE} {vs : List Nat} (h : tl σ H fun x H1 => ∃ a, x = .ref a ∧ (∃ xs, SqT K H1 a xs) ∧ ∀ D, H1 D = none → ∃ W : Nat → Nat → Hp → Prop, (∃ m, W 0 m (upd H1 D (.lst []))) ∧ ∀ i m H, W i m H →
  ((Itt K a).stop i H ∧ Q (.ref D) H) ∨ ((Itt K a).go i H ∧ ∃ Nx : Hp → Prop, (∀ H', Nx H' → ∃ m', m' < m ∧ W (i + 1) m' H') ∧ ∀ x H', (Itt K a).yld i H x H' → g x (wipe σ vs) H' fun σ2 H2 => wipe σ2 vs = wipe σ vs ∧ tt σ2 H2 fun b H3 =>
    if b = true then te σ2 H3 fun y H4 => ∃ acc, H4 D = some (.lst acc) ∧ acc.length < sizeLine ∧ Nx (upd H4 D (.lst (acc ++ [y]))) else Nx H3)) : tLc (iTup K tl) g tt te vs σ H Q := h
theorem r_gunl {σ : St} {H : Hp} {K : PySem.W.Frag} {p : Addr} {xs : List V} {n : Nat} {t : TGs} {R : St → Hp → Prop} (hs : SqL K H p xs) (hl : xs.length = n) (h : t xs σ H R) : gUnl K n t (.ref p) σ H R := ⟨p, xs, rfl, hs, hl, h⟩
theorem cut_from {zs : List Int} {d : Nat} : cutV (zs.map V.int) (some (d : Nat)) none = (zs.drop d).map V.int := by
  unfold cutV
  rw [HT.sIx_nat, HT.sIx_none, List.length_map]
  by_cases h : d ≤ zs.length
  · rw [Nat.min_eq_left h, List.take_of_length_le (by rw [List.length_drop, List.length_map]; omega), List.map_drop]
  · rw [Nat.min_eq_right (by omega), List.drop_of_length_le (by rw [List.length_map]; omega), List.drop_of_length_le (by omega)]
    simp
theorem cut_mid {zs : List Int} {d e : Nat} (h : d ≤ e) : cutV (zs.map V.int) (some (d : Nat)) (some (e : Nat)) = ((zs.drop d).take (e - d)).map V.int := by
  unfold cutV
  rw [HT.sIx_nat, HT.sIx_nat, List.length_map]
  by_cases h1 : e ≤ zs.length
  · rw [Nat.min_eq_left h1, Nat.min_eq_left (by omega), List.map_take, List.map_drop]
  · by_cases h2 : d ≤ zs.length
    · rw [Nat.min_eq_right (by omega), Nat.min_eq_left h2, List.map_take, List.map_drop, List.take_of_length_le (by rw [List.length_drop, List.length_map]; omega), List.take_of_length_le (by rw [List.length_drop, List.length_map]; omega)]
    · rw [Nat.min_eq_right (by omega), Nat.min_eq_right (by omega), Nat.sub_self, List.take_zero, List.drop_of_length_le (l := zs) (by omega)]
      simp
theorem cut_to' {zs : List Int} {d : Nat} : cutV (zs.map V.int) none (some (d : Nat)) = (zs.take d).map V.int := by
  unfold cutV
  rw [HT.sIx_nat, HT.sIx_none, List.length_map, List.drop_zero, Nat.sub_zero, List.map_take]
  by_cases h : d ≤ zs.length
  · rw [Nat.min_eq_left h]
  · rw [Nat.min_eq_right (by omega), List.take_of_length_le (by rw [List.length_map]; omega), List.take_of_length_le (by rw [List.length_map]; omega)]
/-- list + list, both of integers -/
theorem r_catI {a b : Addr} {xs ys : List Int} {H : Hp} {Q : VK} (h1 : H a = some (.lst (xs.map V.int))) (h2 : H b = some (.lst (ys.map V.int))) (hl : xs.length + ys.length ≤ 1000) (h : ∀ p H', H p = none → H' p = some (.lst ((xs ++ ys).map V.int)) → Same H H' → Q (.ref p) H') : rCat (.ref a) (.ref b) H Q :=
  ⟨a, b, _, _, rfl, rfl, h1, h2, Nat.le_of_lt (small1000 (by rw [List.length_map, List.length_map]; exact hl)), fun p hp => h p _ hp (by rw [upd_same, cat_ints]) (same_upd hp _)⟩
theorem r_slI {K : PySem.W.Frag} {p : Addr} {xs ys : List Int} {lo hi : Option Int} {H : Hp} {Q : VK} (hs : H p = some (.lst (xs.map V.int))) (e : cutV (xs.map V.int) lo hi = ys.map V.int) (h : ∀ q H', H q = none → H' q = some (.lst (ys.map V.int)) → Same H H' → Q (.ref q) H') : rSlL K (.ref p) lo hi H Q :=
  r_slL (SqL.of hs) fun q hq => h q _ hq (by rw [upd_same, e]) (same_upd hq _)
/-- a new list or tuple -/
theorem r_nw {o : HO} {R : Addr → Hp → Prop} {c : Prop} {H : Hp} (hc : c) (h : ∀ (p : Addr) (H' : Hp), H p = none → H' p = some o → Same H H' → R p H') : c ∧ ∀ p, H p = none → R p (upd H p o) :=
  ⟨hc, fun p hp => h p _ hp upd_same (same_upd hp o)⟩
theorem r_nwI {zs : List Int} {R : Addr → Hp → Prop} {c : Prop} {H : Hp} (hc : c) (h : ∀ (p : Addr) (H' : Hp), H p = none → H' p = some (.lst (zs.map V.int)) → Same H H' → R p H') : c ∧ ∀ p, H p = none → R p (upd H p (.lst (zs.map V.int))) :=
  r_nw hc h
theorem same_tup {K : PySem.W.Frag} {H H' : Hp} {a : Addr} {xs : List V} (e : Same H H') (h : SqT K H a xs) : SqT K H' a xs := by
  rcases h with (h | ⟨o, h⟩) | h
  · exact .inl (.inl (e _ _ h))
  · exact .inl (.inr ⟨o, e _ _ h⟩)
  · exact .inr h
theorem same_seq {K : PySem.W.Frag} {H H' : Hp} {a : Addr} {xs : List V} (e : Same H H') (h : SqL K H a xs ∨ SqT K H a xs) : SqL K H' a xs ∨ SqT K H' a xs := h.elim (fun q => .inl (e.seq q)) fun q => .inr (same_tup e q)
theorem same_away {H1 H' : Hp} {D : Addr} {o : HO} (s : Same H1 H') (n : H1 D = none) : Same H1 (upd H' D o) := fun b u h => by
  rw [upd_ne (ne_of_none h n)]
  exact s b u h
theorem rep1 (n : Nat) (z : Int) : (List.replicate n [V.int z]).flatten = (List.replicate n z).map V.int := by
  induction n with
  | zero => rfl
  | succ n ih => rw [List.replicate_succ, List.replicate_succ, List.flatten_cons, ih]; rfl
/-- [z] * k -/
theorem r_repI {a : Addr} {z k : Int} {H : Hp} {Q : VK} (h1 : H a = some (.lst [.int z])) (h0 : -1000 ≤ k) (hk : k ≤ 1000) (h : ∀ p H', H p = none → H' p = some (.lst ((List.replicate k.toNat z).map V.int)) → Same H H' → Q (.ref p) H') : rRep (.ref a) (.int k) H Q :=
  ⟨a, k, [.int z], rfl, rfl, h1, by omega, by omega, Nat.le_of_lt (small1000 (by show 1 * _ ≤ 1000; omega)), fun p hp => h p _ hp (by rw [upd_same, rep1]) (same_upd hp _)⟩
def sp0 (f : Hp → VK → XK → Prop) : Sp := fun vs H Q E => vs = [] ∧ f H Q E
theorem len0 {f} (vs : List V) (H : Hp) (Q : VK) (E : XK) (h : sp0 f vs H Q E) : vs.length = 0 := by
  obtain ⟨rfl, _⟩ := h
  rfl
theorem ffl {i : Int} (h1 : -(2 ^ 62) ≤ i) (h2 : i < 2 ^ 62) : Builtin.Range.rangeFitsLong i = true := by
  unfold Builtin.Range.rangeFitsLong
  rw [decide_eq_true (by omega), decide_eq_true (by omega)]
  rfl
theorem rgP (n c k : Nat) (hn : n < 2 ^ 60) (h0 : 0 < c) (hc : c < 1000) (hk : k = (n + (c - 1)) / c) : RgC 0 (n : Nat) (c : Nat) k := by
  have hkn : k ≤ n + (c - 1) := by
    rw [hk]
    exact Nat.div_le_self _ _
  have e : Builtin.Range.rangeSize 0 (n : Nat) (c : Nat) = ((k : Nat) : Int) := by
    unfold Builtin.Range.rangeSize
    rw [if_pos (by omega)]
    by_cases z : n = 0
    · subst z
      rw [if_neg (by omega)]
      have : k = 0 := by rw [hk, Nat.zero_add]; exact Nat.div_eq_of_lt (by omega)
      omega
    · rw [if_pos (by omega)]
      have e1 : ((n : Nat) : Int) - 0 - 1 = ((n - 1 : Nat) : Int) := by omega
      rw [e1]
      have e2 : (n + (c - 1)) / c = (n - 1) / c + 1 := by
        rw [show n + (c - 1) = n - 1 + c by omega, Nat.add_div_right _ h0]
      rw [hk, e2]
      simp
  have hs : Builtin.Range.small 0 (n : Nat) (c : Nat) = true := by
    unfold Builtin.Range.small
    rw [e, ffl (by decide) (by decide), ffl (by omega) (by omega), ffl (by omega) (by omega), ffl (by omega) (by omega), if_pos (by omega), ffl (by omega) (by omega)]
    simp
  exact ⟨by omega, by omega, hs, e⟩
/-- list.extend -/
theorem r_extI {a b : Addr} {xs ys : List Int} {H : Hp} {Q : VK} (h1 : H a = some (.lst (xs.map V.int))) (h2 : H b = some (.lst (ys.map V.int))) (hl : xs.length + ys.length ≤ 4000) (h : ∀ H', H' a = some (.lst ((xs ++ ys).map V.int)) → (∀ b o, b ≠ a → H b = some o → H' b = some o) → (∀ H1, Same H1 H → H1 a = none → Same H1 H') → Q .non H') : rExtend (.ref a) [.ref b] H Q :=
  ⟨a, b, _, _, rfl, rfl, h1, h2, Nat.le_trans (by rw [List.length_map, List.length_map]; exact hl) (by decide : 4000 ≤ sizeLine), h _ (by rw [upd_same, cat_ints]) (fun b o n e => by rw [upd_ne n]; exact e) fun H1 s n => same_away s n⟩
/-- a slice of a row, list or tuple -/
theorem r_slSeq {K : PySem.W.Frag} {p : Addr} {xs : List Int} {d e : Nat} {H : Hp} {Q : VK} (hde : d ≤ e) (hs : SqL K H p (xs.map V.int) ∨ SqT K H p (xs.map V.int)) (h : ∀ q H', SqL K H' q (((xs.drop d).take (e - d)).map V.int) ∨ SqT K H' q (((xs.drop d).take (e - d)).map V.int) → Same H H' → Q (.ref q) H') : rSlL K (.ref p) (some (d : Nat)) (some (e : Nat)) H Q ∨ rSlA K (.ref p) (some (d : Nat)) (some (e : Nat)) H Q := by
  rcases hs with hs | hs
  · refine .inl (r_slL hs fun q hq => h q _ (.inl (SqL.of ?_)) (same_upd hq _))
    rw [upd_same, cut_mid hde]
  · refine .inr ⟨p, _, rfl, hs, fun hw => ?_, fun _ q hq => ?_⟩
    · refine h p H (.inr ?_) (Same.refl H)
      obtain ⟨w1, w2⟩ := hw
      rw [HT.sIx_nat, List.length_map] at w1 w2
      by_cases c : d = 0
      · subst c
        rw [List.drop_zero, List.take_of_length_le (by omega)]
        exact hs
      · have e0 : xs.length = 0 := by omega
        have e1 : xs = [] := List.length_eq_zero_iff.mp e0
        subst e1
        simpa using hs
    · refine h q _ (.inr (SqT.of ?_)) (same_upd hq _)
      rw [upd_same, cut_mid hde]
theorem pe_c0 {X : Cx} {k j : Nat} {x : Str} {sp : Sp} {dvs : List V} {p pos : Pos} (c : Cal X.prog X.w X.K X.mg X.base k x sp dvs) (hr : Room j X.A) (hk : k ≤ j) (hg : Gl X x) (hdb : (x == ("__debug__" : Str)) = false := by decide) : PE X (.Call (.Name x p) [] [] pos) (tCall sp dvs C8.E0 tNil) := by
  obtain ⟨f, fd, ps, ds, F, hm, hk', b, d⟩ := c.ex
  exact pe_call0 F (hr.mono hk) hg hm hk' b d pass0 hdb

theorem eqv_ints (a b : List Int) : PyData.eqv (.list (a.map PyData.int)) (.list (b.map PyData.int)) = decide (a = b) := PySem.W.ked_eqvAll a b
/-- two rows of integers compared -/
theorem r_eqIL {K : PySem.W.Frag} {p q : Addr} {a b : List Int} {H : Hp} {Q : VK} (h1 : SqL K H p (a.map V.int)) (h2 : SqL K H q (b.map V.int)) (h : Q (.bl (decide (a = b))) H) : rEqD K (.ref p) (.ref q) H Q :=
  r_eqD (.lst h1 (dpa_ints _)) (.lst h2 (dpa_ints _)) (shaped_ints _) (shaped_ints _) (by rw [eqv_ints]; exact h)
theorem r_neIL {K : PySem.W.Frag} {p q : Addr} {a b : List Int} {H : Hp} {Q : VK} (h1 : SqL K H p (a.map V.int)) (h2 : SqL K H q (b.map V.int)) (h : Q (.bl (!decide (a = b))) H) : rNeD K (.ref p) (.ref q) H Q :=
  r_neD (.lst h1 (dpa_ints _)) (.lst h2 (dpa_ints _)) (shaped_ints _) (shaped_ints _) (by rw [eqv_ints]; exact h)
/-- a for over a text -/
theorem r_eachS {σ : St} {H : Hp} {n : St → Hp → Prop} {r : VK} {g : TG} {tb : TS} {z : Str} (Pv : Nat → St → Hp → Prop) (h0 : Pv 0 σ H)
    (hs : ∀ (i : Nat) (c : Nat) σ H, z.cps[i]? = some c → Pv i σ H → g (.str ⟨#[c]⟩) σ H fun σ2 H2 => tb ⟨Pv (i + 1), r, n, Pv (i + 1)⟩ σ2 H2) (hd : ∀ σ H, Pv z.cps.size σ H → n σ H) :
    ∃ W : Nat → Nat → St → Hp → Prop, (∃ m, W 0 m σ H) ∧ ∀ i m σ H, W i m σ H →
    ((Its z).stop i H ∧ n σ H) ∨ ((Its z).go i H ∧ ∃ N : St → Hp → Prop, (∀ σ' H', N σ' H' → ∃ m', m' < m ∧ W (i + 1) m' σ' H') ∧ ∀ x H', (Its z).yld i H x H' → g x σ H' fun σ2 H2 => tb ⟨N, r, n, N⟩ σ2 H2) := by
  refine r_each z.cps.size Pv h0 (fun i σ H hi p => ⟨hi, ?_⟩) fun σ H p => ⟨Nat.le_refl _, hd σ H p⟩
  rintro x _ ⟨rfl, c, hc, rfl⟩
  exact hs i c σ _ hc p
theorem r_itS {σ : St} {H : Hp} {te : TE} {R : It → Hp → Prop} (h : te σ H fun v H1 => ∃ x, v = .str x ∧ R (Its x) H1) : iStr te σ H R := h
def rLenK (K : Frg) : List V → Hp → VK → Prop := fun xs H Q => ∃ p ys, xs = [.ref p] ∧ (SqL K H p ys ∨ SqT K H p ys) ∧ Q (.int ys.length) H
def rListK (K : Frg) : List V → Hp → VK → Prop := fun xs H Q => ∃ p ys, xs = [.ref p] ∧ (SqL K H p ys ∨ SqT K H p ys) ∧ ∀ l, H l = none → Q (.ref l) (upd H l (.lst ys))
def rTupleK (K : Frg) : List V → Hp → VK → Prop := fun xs H Q => ∃ p ys, xs = [.ref p] ∧ ((SqL K H p ys ∧ ∀ l, H l = none → Q (.ref l) (upd H l (.tup ys))) ∨ (SqT K H p ys ∧ Q (.ref p) H))
theorem small4k {n : Nat} (h : n ≤ 4000) : n < sizeLine := Nat.lt_of_le_of_lt h (by decide)
theorem r_ifTF {b : Bool} {A B : Prop} (h1 : b = true → A) (h2 : b = false → B) : if b = true then A else B := by
  cases b with
  | true => exact h1 rfl
  | false => exact h2 rfl

/-! ### sorted: pairs of a tuple of integers and something, no two with the same integers -/
section
open PyProof.Rows PySem.W PySem.Calls
theorem lexLt_irr : ∀ a : List Int, HT.lexLt a a = false
  | [] => rfl
  | x :: xs => by
    rw [HT.lexLt_cons, if_pos rfl]
    exact lexLt_irr xs
theorem lexLt_asym : ∀ a b : List Int, HT.lexLt a b = true → HT.lexLt b a = false
  | [], [], h => by cases h
  | [], y :: ys, _ => rfl
  | x :: xs, [], h => by cases h
  | x :: xs, y :: ys, h => by
    rw [HT.lexLt_cons] at h ⊢
    by_cases e : x = y
    · rw [if_pos e] at h
      rw [if_pos e.symm]
      exact lexLt_asym xs ys h
    · rw [if_neg e] at h
      rw [if_neg (fun q => e q.symm)]
      have := of_decide_eq_true h
      exact decide_eq_false (by omega)
theorem lexLt_ntr : ∀ a b c : List Int, HT.lexLt b a = false → HT.lexLt c b = false → HT.lexLt c a = false
  | [], _, [], _, _ => rfl
  | [], _, z :: zs, _, _ => rfl
  | x :: xs, [], _, h, _ => by cases h
  | x :: xs, y :: ys, [], _, h => by cases h
  | x :: xs, y :: ys, z :: zs, h1, h2 => by
    rw [HT.lexLt_cons] at h1 h2 ⊢
    by_cases e1 : y = x
    · subst e1
      rw [if_pos rfl] at h1
      by_cases e2 : z = y
      · subst e2
        rw [if_pos rfl] at h2 ⊢
        exact lexLt_ntr xs ys zs h1 h2
      · rw [if_neg e2] at h2 ⊢
        exact h2
    · rw [if_neg e1] at h1
      have h1 := of_decide_eq_false h1
      by_cases e2 : z = y
      · subst e2
        rw [if_neg e1]
        exact decide_eq_false h1
      · rw [if_neg e2] at h2
        have h2 := of_decide_eq_false h2
        rw [if_neg (by omega)]
        exact decide_eq_false (by omega)
theorem lexLt_tri : ∀ a b : List Int, HT.lexLt a b = false → HT.lexLt b a = false → a = b
  | [], [], _, _ => rfl
  | [], y :: ys, h, _ => by cases h
  | x :: xs, [], _, h => by cases h
  | x :: xs, y :: ys, h1, h2 => by
    rw [HT.lexLt_cons] at h1 h2
    by_cases e : x = y
    · subst e
      rw [if_pos rfl] at h1 h2
      rw [lexLt_tri xs ys h1 h2]
    · rw [if_neg e] at h1
      rw [if_neg (fun q => e q.symm)] at h2
      have h1 := of_decide_eq_false h1
      have h2 := of_decide_eq_false h2
      omega
theorem lexLt_tr {a b c : List Int} (h1 : HT.lexLt a b = true) (h2 : HT.lexLt b c = true) : HT.lexLt a c = true := by
  cases h : HT.lexLt a c with
  | true => rfl
  | false =>
    have q := lexLt_ntr c a b h (lexLt_asym _ _ h1)
    rw [q] at h2
    cases h2
theorem swo_key {α : Type} (k : α → List Int) : SrtO.Swo fun v u => HT.lexLt (k v) (k u) := ⟨fun x y h => lexLt_asym _ _ h, fun x y z h1 h2 => lexLt_ntr _ _ _ h1 h2⟩
/-- a tuple of these integers in a heap -/
def IsTI (h : Heap) (q : Addr) (ns : List Int) : Prop := ∃ (o : Obj) (its : List Value) (n : Nat), h.get? q = some o ∧ o.cls = .type "tuple" ∧ o.data = .seq its.toArray n ∧ IntsAre its ns
theorem IsTI.keeps {h h' : Heap} {q : Addr} {ns : List Int} (x : IsTI h q ns) (k : ∀ b o, h.get? b = some o → o.cls = .type "tuple" → h'.get? b = some o) : IsTI h' q ns := by
  obtain ⟨o, its, n, h1, h2, h3, h4⟩ := x
  exact ⟨o, its, n, k _ _ h1 h2, h2, h3, h4⟩
theorem readsAll_ints {h : Heap} : ∀ {its : List Value} {ns : List Int}, IntsAre its ns → ReadsAll h its (ns.map PyData.int) []
  | _, _, .nil => .nil
  | _, _, .cons n t r => .cons (.int n t) (readsAll_ints r)
theorem IsTI.reads {h : Heap} {q : Addr} {ns : List Int} (x : IsTI h q ns) : Reads h (.ref q) (.tuple (ns.map PyData.int)) [] := by
  obtain ⟨o, its, n, h1, h2, h3, h4⟩ := x
  exact .tuple h1 h2 h3 (by simpa using readsAll_ints h4)
theorem lay_ints : ∀ ns : List Int, PyData.canLayAll0 (ns.map PyData.int) = true
  | [] => rfl
  | n :: ns => by
    show (PyData.canLay0 (.int n) && PyData.canLayAll0 (ns.map PyData.int)) = true
    rw [lay_ints ns]
    rfl
theorem lay_kd (ns : List Int) : (PyData.tuple (ns.map PyData.int)).canLay0 = true := lay_ints ns
theorem depth_ints : ∀ ns : List Int, PyData.depthAll (ns.map PyData.int) = 0
  | [] => rfl
  | n :: ns => by
    have e := depth_ints ns
    simp [PyData.depthAll, PyData.depth, e]
theorem depth_kd (ns : List Int) : (PyData.tuple (ns.map PyData.int)).depth ≤ 1 := by
  have e := depth_ints ns
  simp [PyData.depth, e]
theorem eqv_kd (a b : List Int) : PyData.eqv (.tuple (a.map PyData.int)) (.tuple (b.map PyData.int)) = decide (a = b) := PySem.W.ked_eqvAll a b
variable {prog : Program} {w : World} {A : Around} {s : Shared}
theorem ti_eqAt {q q' : Addr} {a b : List Int} (h1 : IsTI s.heap q a) (h2 : IsTI s.heap q' b) (hu : A.units + 1 < cLine) : SeqAt.EqAt A s (.ref q) (.ref q') (decide (a = b)) := by
  have e := SeqAt.eqAt_reads _ _ A s _ _ _ _ h1.reads h2.reads (lay_kd a) (lay_kd b) (by
    have := depth_kd a
    have := Nat.min_le_left (PyData.tuple (a.map PyData.int)).depth (PyData.tuple (b.map PyData.int)).depth
    omega)
  rw [eqv_kd] at e
  exact e
theorem ti_lt {q q' : Addr} {a b : List Int} (h1 : IsTI s.heap q a) (h2 : IsTI s.heap q' b) (hu : A.units < cLine) {E : Value → Shared → Prop} {Q : Bool → Shared → Prop} (h : Q (HT.lexLt a b) s) : wpAny (model prog w) A (oneLt' false (.ref q) (.ref q')) Q E s := by
  obtain ⟨o1, i1, n1, a1, a2, a3, a4⟩ := h1
  obtain ⟨o2, i2, n2, b1, b2, b3, b4⟩ := h2
  refine PySem.W.kat_one _ _ (HT.lt_tupInts (items := i1.toArray) (items2 := i2.toArray) ⟨o1, a1, a2, n1, a3⟩ ⟨o2, b1, b2, n2, b3⟩ (by simpa using a4) (by simpa using b4) hu ?_)
  exact h
/-- such a pair -/
def IsEnt (h : Heap) (v : Value) (ns : List Int) : Prop := ∃ (a q u : Addr) (o : Obj) (n : Nat), v = .ref a ∧ h.get? a = some o ∧ o.cls = .type "tuple" ∧ o.data = .seq #[.ref q, .ref u] n ∧ IsTI h q ns
theorem IsEnt.keeps {h h' : Heap} {v : Value} {ns : List Int} (x : IsEnt h v ns) (k : ∀ b o, h.get? b = some o → o.cls = .type "tuple" → h'.get? b = some o) : IsEnt h' v ns := by
  obtain ⟨a, q, u, o, n, e, h1, h2, h3, h4⟩ := x
  exact ⟨a, q, u, o, n, e, k _ _ h1 h2, h2, h3, h4.keeps k⟩
theorem ents_firsts {h : Heap} {k : Value → List Int} : ∀ {vs : List Value}, (∀ v ∈ vs, IsEnt h v (k v)) → ∃ fs : List Value, PySem.W.KatTups h vs fs ∧ fs.length = vs.length ∧ ∀ f ∈ fs, ∃ q ns, f = Value.ref q ∧ IsTI h q ns
  | [], _ => ⟨[], PySem.W.KatTups.nil, rfl, fun _ hm => by simp at hm⟩
  | v :: vs, hp => by
    obtain ⟨fs, h1, h2, h3⟩ := ents_firsts (vs := vs) fun v' hm => hp v' (List.mem_cons_of_mem _ hm)
    obtain ⟨a, q, u, o, n, e, ho, hc, hd, ht⟩ := hp v (List.mem_cons_self ..)
    subst e
    refine ⟨.ref q :: fs, PySem.W.KatTups.cons ho hc hd rfl h1, by rw [List.length_cons, List.length_cons, h2], fun f hm => ?_⟩
    rcases List.mem_cons.mp hm with rfl | hm
    · exact ⟨q, _, rfl, ht⟩
    · exact h3 f hm
theorem ent_cmp {vs : List Value} {k : Value → List Int} (hu : A.units + 1 < cLine) (hp : ∀ v ∈ vs, IsEnt s.heap v (k v)) (hi : ∀ v ∈ vs, ∀ u ∈ vs, k v = k u → v = u) : SrtO.Cmp prog w A s (tuples' false) (fun p => p.1 ∈ vs) (SrtO.lt2 fun v u => HT.lexLt (k v) (k u)) := by
  intro p q hm hm'
  have h1 := hp _ hm
  have h2 := hp _ hm'
  have hij := hi _ hm _ hm'
  show wpAny (model prog w) A (keyLt' (tuples' false) p.1 q.1) (fun r s' => s' = s ∧ r = HT.lexLt (k p.1) (k q.1)) (fun _ _ => False) s
  generalize k p.1 = x at h1 hij ⊢
  generalize k q.1 = y at h2 hij ⊢
  obtain ⟨a, q1, u, o, n, e, ho, hc, hd, t1⟩ := h1
  obtain ⟨a', q2, u', o', n', e', ho', hc', hd', t2⟩ := h2
  rw [e, e'] at hij ⊢
  refine PySem.W.kat_lt ho hd ho' hd' ?_
  show PySem.W.KatLex prog w A false (decide (2 < 2)) _ [(.ref q1, .ref q2), (.ref u, .ref u')] 0 s
  refine PySem.W.kat_cons (ti_eqAt t1 t2 hu prog w _ _ ?_)
  refine PySem.W.kat_go (fun e1 => ?_) (fun e1 => ?_)
  · have ex : x = y := of_decide_eq_true e1
    have ea := hij ex
    have ea : a = a' := by
      injection ea
    subst ea
    have eo : o = o' := Option.some.inj (ho.symm.trans ho')
    subst eo
    rw [hd] at hd'
    have eu : u = u' := by
      injection hd' with e1 e2
      simp at e1
      exact e1.2
    subst eu
    refine PySem.W.kat_yes (PySem.W.kat_cons (SeqAt.EqAt.same _ prog w _ _ ?_))
    refine PySem.W.kat_go (fun e2 => ?_) (fun e2 => by cases e2)
    refine PySem.W.kat_yes (PySem.W.kat_nil ⟨rfl, ?_⟩)
    rw [ex, lexLt_irr]
    rfl
  · exact PySem.W.kat_no (ti_lt t1 t2 (by omega) ⟨rfl, rfl⟩)
theorem ents_sortable {a : Addr} {vs : List Value} {k : Value → List Int} (hu : A.units + 1 < cLine) (h0 : 0 < vs.length) (hp : ∀ v ∈ vs, IsEnt s.heap v (k v)) (hi : ∀ v ∈ vs, ∀ u ∈ vs, k v = k u → v = u) (ha : ∀ o, s.heap.get? a = some o → o.cls ≠ .type "tuple") : SrtO.SortableO prog w A s a vs fun v u => HT.lexLt (k v) (k u) := by
  intro h' keep
  have kp : ∀ b o, s.heap.get? b = some o → o.cls = .type "tuple" → h'.get? b = some o := fun b o e c => keep b o (fun z => by subst z; exact ha o e c) e
  have hp' : ∀ v ∈ vs, IsEnt h' v (k v) := fun v hm => (hp v hm).keeps kp
  obtain ⟨fs, h1, h2, h3⟩ := ents_firsts hp'
  refine ⟨tuples' false, fun Q E hq => ?_, ent_cmp hu hp' hi⟩
  refine PySem.W.kat_kind (T := .type "tuple") h1 (by omega) (fun f hm => ?_) (by rfl) ?_
  · obtain ⟨q, ns, rfl, o, its, n, g1, g2, g3, g4⟩ := h3 f hm
    have e : PySem.W.Looks (model prog w) h' (typeOf (.ref q)) o.cls := (PySem.W.Looks.ld g1).andThen .now
    rw [g2] at e
    exact e
  · have e : (Value.type "tuple" != Value.type "tuple") = false := by first | decide +kernel | rfl | decide
    rw [e]
    exact hq
theorem sorted_ents {l : Addr} {vs : List Value} {k : Value → List Int} {E : Value → Shared → Prop} {Q : Value → Shared → Prop} (hu : A.units + 10 < cLine) (hl : s.heap.IsList l vs.toArray) (hz : vs.length ≤ sizeLine) (hp : ∀ v ∈ vs, IsEnt s.heap v (k v)) (hi : ∀ v ∈ vs, ∀ u ∈ vs, k v = k u → v = u)
    (h : ∀ (h' : Heap) (d : Addr) (out : List Value), SrtO.Srtd (fun v u => HT.lexLt (k v) (k u)) out → SrtO.Stb (fun v u => HT.lexLt (k v) (k u)) out vs → (∀ b o, s.heap.get? b = some o → h'.get? b = some o) → s.heap.objs.size ≤ d → (∃ n, h'.get? d = some (seqObj "list" out.toArray n)) → Q (.ref d) { s with heap := h' }) :
    wpAny (model prog w) A (call (.builtin "sorted") [.ref l]) Q E s := by
  refine SrtO.sorted_ord (swo_key k) hl hz (fun h2 h₁ a ha kk => ?_) fun out hs hb => ?_
  · refine ents_sortable (s := { s with heap := h₁ }) (by
      show A.units + 1 + 1 + 1 < cLine
      omega) (by omega) (fun v hm => (hp v hm).keeps fun b o e _ => (kk b o e).2) hi fun o e => ?_
    have e' : some o = some (seqObj "list" vs.toArray 0) := e.symm.trans ha
    cases e'
    intro c
    exact absurd (Value.type.inj c) (by decide)
  · exact h _ _ out hs hb (fun b o e => sortedAll_old e) (Nat.le_succ _) (sortedAll_at s.heap vs out.toArray)
/-! ### sorted: tuples of integers of any lengths -/
theorem one_lt_ti {q q' : Addr} {a b : List Int} {x : Bool} (h1 : IsTI s.heap q a) (h2 : IsTI s.heap q' b) (hu : A.units + 1 < cLine) {E : Value → Shared → Prop} {Q : Bool → Shared → Prop} (h : Q (HT.lexLt a b) s) : wpAny (model prog w) A (oneLt' x (.ref q) (.ref q')) Q E s := by
  cases x with
  | false => exact ti_lt h1 h2 (by omega) h
  | true =>
    obtain ⟨⟨cls, dd, data, sl⟩, i1, n1, a1, a2, a3, a4⟩ := h1
    obtain ⟨⟨cls2, dd2, data2, sl2⟩, i2, n2, b1, b2, b3, b4⟩ := h2
    simp only at a2 a3 b2 b3
    subst a2 a3 b2 b3
    rw [oneLt'_eq]
    simp only [if_true]
    refine wpAny_bind (wpAny_cRoomFor (by omega) ?_)
    refine wpAny_bind (wpAny_callSpecialIfBound?_slot (name := Str.ofString "__lt__") ⟨_, a1, rfl⟩ PySem.F.slot_tuple_lt (call_meets PySem.F.slot_tuple_lt ⟨_, a1, rfl⟩ PySem.F.entry_tuple_lt (PySem.F.args_tuple_lt_2 _ _) (HT.tuple_lt_ints q q' i1.toArray i2.toArray n1 n2 dd dd2 sl sl2 a b (by simpa using a4) (by simpa using b4)) ⟨a1, b1, ?_⟩))
    exact wpAny_truthy_bool h
theorem ti_lex {fin : Bool} {Q : Bool → Shared → Prop} : ∀ {vs us : List Value} {a b : List Int}, IntsAre vs a → IntsAre us b → (i : Nat) → (hf : a.length + us.length = a.length + us.length) → (∀ r, (∀ c d : List Int, c.length = a.length → d.length = b.length → True) → (r = HT.lexLt a b ∨ (r = fin ∧ (a.length ≤ b.length ∨ b.length ≤ a.length) ∧ HT.lexLt a b = decide (a.length < b.length) ∧ a.take b.length = b.take a.length)) → Q r s) →
    PySem.W.KatLex prog w A true fin Q (vs.zip us) i s
  | _, _, [], b, .nil, hb, i, _, h => by
    show Q fin s
    refine h fin (fun _ _ _ _ => trivial) (.inr ⟨rfl, .inl (Nat.zero_le _), ?_, by simp⟩)
    cases b with
    | nil => rfl
    | cons y ys => rfl
  | _, _, x :: a, [], .cons _ _ ra, .nil, i, _, h => by
    show Q fin s
    exact h fin (fun _ _ _ _ => trivial) (.inr ⟨rfl, .inr (Nat.zero_le _), rfl, by simp⟩)
  | _, _, x :: a, y :: b, .cons _ t ra, .cons _ u rb, i, _, h => by
    show PySem.W.KatLex prog w A true fin Q ((.int x t, .int y u) :: _) i s
    refine PySem.W.kat_cons (SeqAt.EqAt.int_int x t y u prog w _ _ ?_)
    refine PySem.W.kat_go (fun e1 => ?_) (fun e1 => ?_)
    · have ex : x = y := by simpa using e1
      subst ex
      refine PySem.W.kat_yes (ti_lex ra rb (i + 1) rfl fun r _ hr => h r (fun _ _ _ _ => trivial) ?_)
      rw [HT.lexLt_cons, if_pos rfl]
      rcases hr with hr | ⟨hr, h1, h2, h3⟩
      · exact .inl hr
      · refine .inr ⟨hr, ?_, ?_, ?_⟩
        · rw [List.length_cons, List.length_cons]
          omega
        · rw [h2, List.length_cons, List.length_cons]
          exact decide_eq_decide.mpr (by omega)
        · rw [List.length_cons, List.length_cons, List.take_succ_cons, List.take_succ_cons, h3]
    · have ex : ¬ x = y := by simpa using e1
      refine PySem.W.kat_no ?_
      have e3 : HT.lexLt (x :: a) (y :: b) = decide (x < y) := by rw [HT.lexLt_cons, if_neg ex]
      have hq : Q (decide (x < y)) s := h _ (fun _ _ _ _ => trivial) (.inl e3.symm)
      cases hb : (true && i == 0) with
      | true => exact oneLt_int hq
      | false => exact PySem.W.kat_one _ _ (PyProof.Rows.lt_int hq)
theorem ti_tuples {q q' : Addr} {a b : List Int} (h1 : IsTI s.heap q a) (h2 : IsTI s.heap q' b) {E : Value → Shared → Prop} {Q : Bool → Shared → Prop} (h : Q (HT.lexLt a b) s) : wpAny (model prog w) A (keyLt' (tuples' true) (.ref q) (.ref q')) Q E s := by
  obtain ⟨o1, i1, n1, a1, a2, a3, a4⟩ := h1
  obtain ⟨o2, i2, n2, b1, b2, b3, b4⟩ := h2
  refine PySem.W.kat_lt a1 a3 b1 b3 ?_
  have la := a4.length
  have lb := b4.length
  show PySem.W.KatLex prog w A true (decide (i1.toArray.size < i2.toArray.size)) Q (i1.zip i2) 0 s
  refine ti_lex a4 b4 0 rfl fun r _ hr => ?_
  rcases hr with hr | ⟨hr, _, h3, _⟩
  · rw [hr]
    exact h
  · rw [hr]
    have e : decide (i1.toArray.size < i2.toArray.size) = HT.lexLt a b := by
      rw [h3, List.size_toArray, List.size_toArray, la, lb]
    rw [e]
    exact h
def TiV (h : Heap) (v : Value) (ns : List Int) : Prop := ∃ q, v = .ref q ∧ IsTI h q ns
theorem ti_firsts {h : Heap} {k : Value → List Int} : ∀ {vs : List Value}, (∀ v ∈ vs, TiV h v (k v)) → (∀ v ∈ vs, k v ≠ []) → ∃ fs : List Value, PySem.W.KatTups h vs fs ∧ fs.length = vs.length ∧ ∀ f ∈ fs, ∃ x t, f = Value.int x t
  | [], _, _ => ⟨[], PySem.W.KatTups.nil, rfl, fun _ hm => by simp at hm⟩
  | v :: vs, hp, hn => by
    obtain ⟨fs, h1, h2, h3⟩ := ti_firsts (vs := vs) (fun v' hm => hp v' (List.mem_cons_of_mem _ hm)) (fun v' hm => hn v' (List.mem_cons_of_mem _ hm))
    obtain ⟨q, e, o, its, n, ho, hc, hd, ht⟩ := hp v (List.mem_cons_self ..)
    have hne := hn v (List.mem_cons_self ..)
    subst e
    revert hne ht
    generalize k (.ref q) = ns
    intro ht hne
    cases ht with
    | nil => exact absurd rfl hne
    | @cons x t vs' ns' r =>
      refine ⟨.int x t :: fs, PySem.W.KatTups.cons ho hc hd rfl h1, by rw [List.length_cons, List.length_cons, h2], fun f hm => ?_⟩
      rcases List.mem_cons.mp hm with rfl | hm
      · exact ⟨x, t, rfl⟩
      · exact h3 f hm
theorem ti_first {v : Value} {ns : List Int} (h : TiV s.heap v ns) {E : Value → Shared → Prop} {Q : Option Value → Shared → Prop} (q : ∀ r : Option Value, (r.isSome = true ↔ ns ≠ []) → Q r s) : wpAny (model prog w) A (firstOfTuple' v) Q E s := by
  obtain ⟨a, rfl, o, its, n, ho, hc, hd, ht⟩ := h
  rw [PySem.W.kas_first_eq]
  refine wpAny_bind (PySem.W.Looks.here (show PySem.W.Looks (model prog w) s.heap (typeOf (.ref a)) o.cls from (PySem.W.Looks.ld ho).andThen .now) ?_)
  rw [hc, if_neg (by first | decide | simp)]
  refine wpAny_bind (listItems_at ho hd (wpAny_pure ?_))
  refine q _ ?_
  cases ht with
  | nil => simp
  | cons x t r => simp
theorem ti_firstsM {k : Value → List Int} {E : Value → Shared → Prop} : ∀ {vs : List Value} {Q : List (Option Value) → Shared → Prop}, (∀ v ∈ vs, TiV s.heap v (k v)) → (∀ rs : List (Option Value), rs.length = vs.length → (∀ (i : Nat) (v : Value) (r : Option Value), vs[i]? = some v → rs[i]? = some r → (r.isSome = true ↔ k v ≠ [])) → Q rs s) → wpAny (model prog w) A (vs.mapM firstOfTuple') Q E s
  | [], Q, _, h => by
    rw [List.mapM_nil]
    exact wpAny_pure (h [] rfl fun i v r e => by simp at e)
  | v :: vs, Q, hp, h => by
    rw [List.mapM_cons]
    refine wpAny_bind (ti_first (hp v (List.mem_cons_self ..)) fun r hr => ?_)
    refine wpAny_bind (ti_firstsM (vs := vs) (fun v' hm => hp v' (List.mem_cons_of_mem _ hm)) fun rs hl hrs => wpAny_pure (h (r :: rs) (by rw [List.length_cons, List.length_cons, hl]) fun i v' r' e1 e2 => ?_))
    cases i with
    | zero =>
      cases (show some v = some v' from e1)
      cases (show some r = some r' from e2)
      exact hr
    | succ i => exact hrs i v' r' (by simpa using e1) (by simpa using e2)
theorem ti_types {E : Value → Shared → Prop} {k : Value → List Int} {vs : List Value} {Q : Option Value → Shared → Prop} (h0 : 0 < vs.length) (hp : ∀ v ∈ vs, TiV s.heap v (k v)) (h : Q (some (.type "tuple")) s) : wpAny (model prog w) A (oneTypeOnly' vs.toArray) Q E s := by
  obtain ⟨v1, vr, rfl⟩ : ∃ v1 vr, vs = v1 :: vr := by
    match vs, h0 with
    | v1 :: vr, _ => exact ⟨v1, vr, rfl⟩
  rw [oneTypeOnly'_eq, List.mapM_toArray, map_eq_pure_bind]
  refine wpAny_bind (wpAny_bind (PySem.W.kas_mapM (r := .type "tuple") _ (fun v hv Q' hq => ?_) (wpAny_pure ?_)))
  · obtain ⟨a, rfl, o, its, n, ho, hc, hd, ht⟩ := hp v hv
    have e : PySem.W.Looks (model prog w) s.heap (typeOf (.ref a)) o.cls := (PySem.W.Looks.ld ho).andThen .now
    rw [hc] at e
    exact e.here hq
  · have hall2 : ((List.map (fun _ => Value.type "tuple") (v1 :: vr)).toArray.all fun x => x == Value.type "tuple") = true := by
      simp only [List.all_toArray, List.all_map, List.all_eq_true]
      intro _ _
      rfl
    have h1 : (List.map (fun _ => Value.type "tuple") (v1 :: vr)).toArray[0]? = some (Value.type "tuple") := by simp
    rw [h1]
    simp only [hall2, if_true]
    exact wpAny_pure h
theorem ti_kind {k : Value → List Int} {vs : List Value} (h0 : 0 < vs.length) (hp : ∀ v ∈ vs, TiV s.heap v (k v)) : ∃ κ, (κ = tuples' true ∨ κ = general' ∨ κ = oneType') ∧ ∀ (Q : SortKind → Shared → Prop) (E : Value → Shared → Prop), Q κ s → wpAny (model prog w) A (keyKind' vs.toArray) Q E s := by
  by_cases hn : ∀ v ∈ vs, k v ≠ []
  · obtain ⟨fs, h1, h2, h3⟩ := ti_firsts hp hn
    refine ⟨tuples' true, .inl rfl, fun Q E hq => ?_⟩
    refine PySem.W.kat_kind (T := .type "int") h1 (by omega) (fun f hm => ?_) (by rfl) ?_
    · obtain ⟨x, t, rfl⟩ := h3 f hm
      exact PySem.W.Looks.now
    · have e : (Value.type "int" != Value.type "tuple") = true := by first | decide +kernel | rfl | decide
      rw [e]
      exact hq
  · obtain ⟨v, hv, hve⟩ : ∃ v ∈ vs, k v = [] := by
      refine Classical.byContradiction fun q => hn fun v hv e => q ⟨v, hv, e⟩
    obtain ⟨i, hi, hiv⟩ := List.getElem_of_mem hv
    have hiv : vs[i]? = some v := by rw [List.getElem?_eq_getElem hi, hiv]
    have no : ∀ rs : List (Option Value), rs.length = vs.length → (∀ (i : Nat) (v : Value) (r : Option Value), vs[i]? = some v → rs[i]? = some r → (r.isSome = true ↔ k v ≠ [])) → (rs.toArray.all fun x => x.isSome) = false := fun rs hl hrs => by
      cases hh : (rs.toArray.all fun x => x.isSome) with
      | false => rfl
      | true =>
        rw [List.all_toArray, List.all_eq_true] at hh
        have hir : i < rs.length := by omega
        have h1 := hrs i v rs[i] hiv (List.getElem?_eq_getElem hir)
        exact absurd hve (h1.mp (hh _ (List.getElem_mem hir)))
    by_cases hf : ∀ v0, vs[0]? = some v0 → k v0 ≠ []
    · refine ⟨general', .inr (.inl rfl), fun Q E hq => ?_⟩
      rw [kat_kind_eq, List.mapM_toArray, map_eq_pure_bind]
      refine wpAny_bind (wpAny_bind (ti_firstsM hp fun rs hl hrs => wpAny_pure ?_))
      rw [if_neg (by rw [no rs hl hrs]; decide)]
      have h00 : 0 < rs.length := by omega
      have e0 : (rs.toArray[0]?.bind id).isSome = true := by
        have hv0 : vs[0]? = some vs[0] := List.getElem?_eq_getElem h0
        have := (hrs 0 _ rs[0] hv0 (List.getElem?_eq_getElem h00)).mpr (hf _ hv0)
        simp [h00, this]
      rw [if_pos e0]
      exact wpAny_pure hq
    · obtain ⟨v0, hv0, hk0⟩ : ∃ v0, vs[0]? = some v0 ∧ k v0 = [] := by
        refine Classical.byContradiction fun q => hf fun v hv e => q ⟨v, hv, e⟩
      refine ⟨oneType', .inr (.inr rfl), fun Q E hq => ?_⟩
      rw [kat_kind_eq, List.mapM_toArray, map_eq_pure_bind]
      refine wpAny_bind (wpAny_bind (ti_firstsM hp fun rs hl hrs => wpAny_pure ?_))
      rw [if_neg (by rw [no rs hl hrs]; decide)]
      have h00 : 0 < rs.length := by omega
      have e0 : ¬ (rs.toArray[0]?.bind id).isSome = true := by
        have h1 := hrs 0 _ rs[0] hv0 (List.getElem?_eq_getElem h00)
        have h2 : ¬ rs[0].isSome = true := fun z => absurd hk0 (h1.mp z)
        simp [h00]
        simpa using h2
      rw [if_neg e0]
      refine wpAny_bind (ti_types h0 hp ?_)
      exact wpAny_pure hq
theorem ti_cmp {vs : List Value} {k : Value → List Int} {κ : SortKind} (hκ : κ = tuples' true ∨ κ = general' ∨ κ = oneType') (hu : A.units + 1 < cLine) (hp : ∀ v ∈ vs, TiV s.heap v (k v)) : SrtO.Cmp prog w A s κ (fun p => p.1 ∈ vs) (SrtO.lt2 fun v u => HT.lexLt (k v) (k u)) := by
  intro p q hm hm'
  obtain ⟨a, e1, h1⟩ := hp _ hm
  obtain ⟨b, e2, h2⟩ := hp _ hm'
  show wpAny (model prog w) A (keyLt' κ p.1 q.1) (fun r s' => s' = s ∧ r = HT.lexLt (k p.1) (k q.1)) (fun _ _ => False) s
  generalize k p.1 = x at h1 ⊢
  generalize k q.1 = y at h2 ⊢
  rw [e1, e2]
  rcases hκ with e | e | e
  · subst e
    exact ti_tuples h1 h2 ⟨rfl, rfl⟩
  · subst e
    exact one_lt_ti (x := false) h1 h2 hu ⟨rfl, rfl⟩
  · subst e
    exact one_lt_ti (x := true) h1 h2 hu ⟨rfl, rfl⟩
theorem IsTI.of_keeps {h h' : Heap} {v : Value} {ns : List Int} (x : TiV h v ns) (k : ∀ b o, h.get? b = some o → o.cls = .type "tuple" → h'.get? b = some o) : TiV h' v ns := by
  obtain ⟨q, e, t⟩ := x
  exact ⟨q, e, t.keeps k⟩
theorem tis_sortable {a : Addr} {vs : List Value} {k : Value → List Int} (hu : A.units + 1 < cLine) (h0 : 0 < vs.length) (hp : ∀ v ∈ vs, TiV s.heap v (k v)) (ha : ∀ o, s.heap.get? a = some o → o.cls ≠ .type "tuple") : SrtO.SortableO prog w A s a vs fun v u => HT.lexLt (k v) (k u) := by
  intro h' keep
  have kp : ∀ b o, s.heap.get? b = some o → o.cls = .type "tuple" → h'.get? b = some o := fun b o e c => keep b o (fun z => by subst z; exact ha o e c) e
  have hp' : ∀ v ∈ vs, TiV h' v (k v) := fun v hm => IsTI.of_keeps (hp v hm) kp
  obtain ⟨κ, hκ, hk⟩ := ti_kind (prog := prog) (w := w) (A := A) (s := { s with heap := h' }) h0 hp'
  exact ⟨κ, hk, ti_cmp hκ hu hp'⟩
/-- the keys of a dict, one by one -/
theorem rawSrc {d : Addr} {es : Array DictEntry} {ep : Nat} (lo : (d == sysModules) = false) : KdlSrc prog w "dict" d d es.size (fun i v => ∃ en, es[i]? = some en ∧ v = en.key) (fun h => DT.Raw h d es ep) where
  type := fun _ hm => hm.typeIs
  there := fun _ hm => ⟨hm.lt, hm.lt⟩
  keep := fun _ _ hm hk => hm.at' fun o e => hk d (.inl rfl) o e
  notList := by decide
  notTuple := by decide
  hint := fun _ _ _ _ hm hq => kdl_hint_dict hm.typeIs hq
  iter := fun A s hh hm => by
    obtain ⟨o, ho, hc, hdat⟩ := id hm
    refine ⟨_, fun i h => h.IsKeyIter s.heap.objs.size d i es.size ep ∧ DT.Raw h d es ep, fun _ _ hq => L2.iter_keys lo ho hc hdat hq, ?_, ⟨⟨_, Heap.get?_push_size _ rfl, rfl, rfl⟩, hm.push _⟩⟩
    have hne : d ≠ s.heap.objs.size := Nat.ne_of_lt hm.lt
    refine ⟨fun b hb => by simp at hb; simp [hb], fun i h h' st hk => ⟨st.1.at fun o e => hk _ (by simp) o e, st.2.at' fun o e => hk d (by simp) o e⟩, fun i s Q E hi st hQ => ?_, fun s Q E st hQ => ?_, fun i s Q E st hQ => wpAny_pyIter_keyiter st.1 hQ⟩
    · obtain ⟨od, hod, hoc, hdd⟩ := id st.2
      refine L2.next_key_item st.1 hod hdd rfl (Array.getElem?_eq_getElem hi) fun h' hit' hs' => ?_
      exact hQ _ h' s.toks ⟨_, Array.getElem?_eq_getElem hi, rfl⟩ ⟨hit', st.2.at' fun o e => hs'.extBut d o hne e⟩ fun b o hb e => hs'.extBut b o (fun h => hb (by simp [h])) e
    · obtain ⟨od, hod, hoc, hdd⟩ := id st.2
      exact L2.next_key_end hh st.1 hod hdd rfl (Nat.le_refl _) fun h' he' => hQ h' s.toks fun b o hb e => he' b o (fun h => hb (by simp [h])) e
end
/-! ### .. as rules of the layer -/
section
open PyProof.Rows PySem.W PySem.Calls
theorem ints_uniq : ∀ {vs : List Value} {a b : List Int}, IntsAre vs a → IntsAre vs b → a = b
  | _, _, _, .nil, .nil => rfl
  | _, _, _, .cons n t r, .cons _ _ r2 => by rw [ints_uniq r r2]
theorem IsTI.uniq {h : Heap} {q : Addr} {a b : List Int} (x : IsTI h q a) (y : IsTI h q b) : a = b := by
  obtain ⟨o, i, n, h1, h2, h3, h4⟩ := x
  obtain ⟨o', i', n', g1, g2, g3, g4⟩ := y
  rw [h1] at g1
  cases g1
  rw [h3] at g3
  have e : i = i' := by
    injection g3 with e1 e2
    simpa using e1
  subst e
  exact ints_uniq h4 g4
theorem IsEnt.uniq {h : Heap} {v : Value} {a b : List Int} (x : IsEnt h v a) (y : IsEnt h v b) : a = b := by
  obtain ⟨t, q, u, o, n, e, h1, h2, h3, h4⟩ := x
  obtain ⟨t', q', u', o', n', e', g1, g2, g3, g4⟩ := y
  rw [e] at e'
  cases e'
  rw [h1] at g1
  cases g1
  rw [h3] at g3
  have e : q = q' := by
    injection g3 with e1 e2
    simp at e1
    exact e1.1
  subst e
  exact h4.uniq g4
open Classical in
noncomputable def entK (h : Heap) (v : Value) : List Int := if hx : ∃ ns, IsEnt h v ns then Classical.choose hx else []
theorem entK_is {h : Heap} {v : Value} {ns : List Int} (x : IsEnt h v ns) : entK h v = ns := by
  have hx : ∃ ns, IsEnt h v ns := ⟨ns, x⟩
  unfold entK
  rw [dif_pos hx]
  exact (Classical.choose_spec hx).uniq x
open Classical in
noncomputable def tiK (h : Heap) (v : Value) : List Int := if hx : ∃ ns, TiV h v ns then Classical.choose hx else []
theorem TiV.uniq {h : Heap} {v : Value} {a b : List Int} (x : TiV h v a) (y : TiV h v b) : a = b := by
  obtain ⟨q, e, t⟩ := x
  obtain ⟨q', e', t'⟩ := y
  rw [e] at e'
  cases e'
  exact t.uniq t'
theorem tiK_is {h : Heap} {v : Value} {ns : List Int} (x : TiV h v ns) : tiK h v = ns := by
  have hx : ∃ ns, TiV h v ns := ⟨ns, x⟩
  unfold tiK
  rw [dif_pos hx]
  exact (Classical.choose_spec hx).uniq x
structure Ent where
  t : Addr
  q : Addr
  u : Addr
  k : List Int
def EntAt (H : Hp) (e : Ent) : Prop := H e.t = some (.tup [.ref e.q, .ref e.u]) ∧ H e.q = some (.tup (e.k.map V.int))
variable {X : Cx}
theorem ti_of {pins : List (Addr × Obj)} {σ : L2.St} {H : Hp} {s : Shared} (I : L2.Inv X pins σ H s) {q : Addr} {ns : List Int} (h : H q = some (.tup (ns.map V.int))) : IsTI s.heap q ns := by
  obtain ⟨_, its, rv, o, ho, hc, n, hd⟩ := I.hok _ _ h
  exact ⟨o, its, n, ho, hc, hd, rv.ints⟩
theorem ent_of {pins : List (Addr × Obj)} {σ : L2.St} {H : Hp} {s : Shared} (I : L2.Inv X pins σ H s) {e : Ent} (h : EntAt H e) : IsEnt s.heap (.ref e.t) e.k := by
  obtain ⟨h1, h2⟩ := h
  obtain ⟨_, its, rv, o, ho, hc, n, hd⟩ := I.hok _ _ h1
  obtain ⟨u1, u2, rfl, r1, r2⟩ := vals2 rv
  cases r1
  cases r2
  exact ⟨e.t, e.q, e.u, o, n, rfl, ho, hc, hd, ti_of I h2⟩
theorem vals_refs {α : Type} (f : α → Addr) : ∀ {l : List α} {us : List Value}, Vals (l.map fun z => V.ref (f z)) us → us = l.map fun z => Value.ref (f z)
  | [], us, h => by cases h; rfl
  | z :: l, us, h => by
    cases h with
    | cons r t =>
      cases r
      rw [vals_refs f t]
      rfl
theorem vals_refsB {α : Type} (f : α → Addr) : ∀ (l : List α), Vals (l.map fun z => V.ref (f z)) (l.map fun z => Value.ref (f z))
  | [] => .nil
  | z :: l => .cons rfl (vals_refsB f l)
theorem perm_up {α β : Type} (f : α → β) : ∀ {out : List β} {l : List α}, out.Perm (l.map f) → ∃ zs : List α, zs.Perm l ∧ zs.map f = out := by
  intro out l h
  generalize hm : l.map f = m at h
  induction h generalizing l with
  | nil =>
    cases l with
    | nil => exact ⟨[], .refl _, rfl⟩
    | cons x l => cases hm
  | @cons b out m p ih =>
    cases l with
    | nil => cases hm
    | cons x l =>
      injection hm with e1 e2
      obtain ⟨zs, pz, ez⟩ := ih e2
      exact ⟨x :: zs, pz.cons x, by rw [List.map_cons, e1, ez]⟩
  | swap b c m =>
    cases l with
    | nil => cases hm
    | cons x l =>
      cases l with
      | nil => cases hm
      | cons y l =>
        injection hm with e1 e2
        injection e2 with e2 e3
        exact ⟨y :: x :: l, .swap _ _ _, by rw [List.map_cons, List.map_cons, e1, e2, e3]⟩
  | trans p1 p2 ih1 ih2 =>
    obtain ⟨z2, q2, e2⟩ := ih2 hm
    obtain ⟨z1, q1, e1⟩ := ih1 e2
    exact ⟨z1, q1.trans q2, e1⟩
/-- sorted(xs), xs a list of pairs of a tuple of integers and an object, no two with the same integers -/
def rSortedE (K : PySem.W.Frag) : List V → Hp → VK → Prop := fun vs H Q => ∃ (a : Addr) (es : List Ent), vs = [V.ref a] ∧ SqL K H a (es.map fun e => V.ref e.t) ∧ (∀ e ∈ es, EntAt H e) ∧ (es.map (·.k)).Nodup ∧
  ∀ (es' : List Ent) (p : Addr), es'.Perm es → (es'.map (·.k)).Pairwise (fun x y => HT.lexLt x y = true) → H p = none → Q (.ref p) (upd H p (.lst (es'.map fun e => V.ref e.t)))
theorem strict_of {l : List (List Int)} (h1 : l.Pairwise (fun x y => HT.lexLt y x = false)) (h2 : l.Nodup) : l.Pairwise (fun x y => HT.lexLt x y = true) := by
  refine (List.Pairwise.and h1 h2).imp fun {x y} ⟨a, b⟩ => ?_
  cases h : HT.lexLt x y with
  | true => rfl
  | false => exact absurd (lexLt_tri _ _ h a) b
theorem cr_sortedE (hu : X.A.units + 64 < cLine) : CallR X (.builtin "sorted") (rSortedE X.K) := by
  intro pins s σ H vs us Q I r h
  obtain ⟨a, es, rfl, hs, he, hn, q⟩ := h
  obtain ⟨its, rv, hl, hz⟩ := I.list hs
  obtain ⟨u, rfl, ru⟩ := vals1 r
  obtain rfl : u = Value.ref a := ru
  have ei := vals_refs (fun e : Ent => e.t) rv
  have at_ : ∀ v ∈ its, ∃ e ∈ es, v = .ref e.t ∧ entK s.heap v = e.k ∧ IsEnt s.heap v e.k := fun v hv => by
    rw [ei] at hv
    obtain ⟨e, hm, rfl⟩ := List.mem_map.mp hv
    have x := ent_of I (he e hm)
    exact ⟨e, hm, rfl, entK_is x, x⟩
  have inj : ∀ e ∈ es, ∀ f ∈ es, e.k = f.k → e = f := fun e h1 f h2 hk => by
    obtain ⟨i, hi, ei⟩ := List.getElem_of_mem h1
    obtain ⟨j, hj, ej⟩ := List.getElem_of_mem h2
    have := List.pairwise_iff_getElem.mp hn
    rcases Nat.lt_trichotomy i j with c | c | c
    · have q := this i j (by rw [List.length_map]; exact hi) (by rw [List.length_map]; exact hj) c
      rw [List.getElem_map, List.getElem_map, ei, ej] at q
      exact absurd hk q
    · subst c
      exact ei.symm.trans ej
    · have q := this j i (by rw [List.length_map]; exact hj) (by rw [List.length_map]; exact hi) c
      rw [List.getElem_map, List.getElem_map, ei, ej] at q
      exact absurd hk.symm q
  refine sorted_ents (k := entK s.heap) (by omega) hl.isList (by rw [← rv.length]; exact hz) (fun v hv => ?_) (fun v hv u hu' hk => ?_) fun h' d out h1 h2 kp hd hn' => ?_
  · obtain ⟨e, _, _, e2, x⟩ := at_ v hv
    rw [e2]
    exact x
  · obtain ⟨e, m1, e1, e2, _⟩ := at_ v hv
    obtain ⟨f, m2, f1, f2, _⟩ := at_ u hu'
    rw [e2, f2] at hk
    rw [e1, f1, inj e m1 f m2 hk]
  · have pe := h2.perm
    rw [ei] at pe
    obtain ⟨zs, pz, ez⟩ := perm_up (fun e : Ent => Value.ref e.t) pe
    obtain ⟨n, hn'⟩ := hn'
    have srt : (zs.map (·.k)).Pairwise (fun x y => HT.lexLt y x = false) := by
      have h1' := h1
      rw [← ez] at h1'
      have h1'' := List.pairwise_map.mp h1'
      rw [List.pairwise_map]
      refine List.Pairwise.imp_of_mem (fun {x y} hx hy hxy => ?_) h1''
      have ex := entK_is (ent_of I (he x (pz.mem_iff.mp hx)))
      have ey := entK_is (ent_of I (he y (pz.mem_iff.mp hy)))
      have hxy : HT.lexLt (entK s.heap (.ref y.t)) (entK s.heap (.ref x.t)) = false := hxy
      rw [ex, ey] at hxy
      exact hxy
    have nd : (zs.map (·.k)).Nodup := (pz.map (·.k)).nodup_iff.mpr hn
    refine ⟨.ref d, upd H d (.lst (zs.map fun e => V.ref e.t)), I.laid (t' := s.toks) kp hd ⟨?_, out, n, ?_, hn'⟩, rfl, q zs d pz (strict_of srt nd) (I.hok.fresh hd)⟩
    · rw [List.length_map, pz.length_eq]
      rw [List.length_map] at hz
      exact hz
    · rw [← ez]
      exact vals_refsB (fun e : Ent => e.t) zs
/-- sorted(d), d a dict whose keys are tuples of integers: the keys themselves, in order -/
def rSortedTD : List V → Hp → VK → Prop := fun vs H Q => ∃ (a : Addr) (kvs : List (List L2.Key × V)) (ks : List (List Int)), vs = [.ref a] ∧ H a = some (.dT kvs) ∧ kvs.map (·.1) = ks.map (·.map Sum.inl) ∧
  ∀ (p : Addr) (qs : List (Addr × List Int)), (qs.map (·.2)).Perm ks → (qs.map (·.2)).Pairwise (fun x y => HT.lexLt x y = true) → (∀ z ∈ qs, H z.1 = some (.tup (z.2.map V.int))) → H p = none → Q (.ref p) (upd H p (.lst (qs.map fun z => V.ref z.1)))
theorem kv_ints (ns : List Int) : (ns.map (Sum.inl : Int → L2.Key)).map kV = ns.map V.int := by
  rw [List.map_map]
  rfl
theorem cr_sortedTD (hcalm : X.calm = true) (hu : X.A.units + 64 < cLine) : CallR X (.builtin "sorted") rSortedTD := by
  intro pins s σ H xs us Q I r h
  obtain ⟨a, kvs, ks, rfl, ha, hks, q⟩ := h
  obtain ⟨u, eu, rx⟩ := vals1 r
  subst eu
  cases rx
  obtain ⟨z, lo, xs', rel, o, es, ep, ho, hx, hdat, hes, hn⟩ := (show ObjOk X.prog X.w H s.heap a (.dT kvs) from I.hok a _ ha)
  have l1 : kvs.length = xs'.length := Paired.length rel
  have l2 : es.size = xs'.length := by
    have e := congrArg List.length hes
    rw [Array.length_toList, List.length_map] at e
    exact e
  have l3 : kvs.length = ks.length := by
    have e := congrArg List.length hks
    rw [List.length_map, List.length_map] at e
    exact e
  have hr : DT.Raw s.heap a es ep := ⟨o, ho, hx, hdat⟩
  have at_ : ∀ (j : Nat) (e : Addr × List Int), ((xs'.map (·.2.1)).zip ks)[j]? = some e → H e.1 = some (.tup (e.2.map V.int)) := by
    intro j e hj
    obtain ⟨h1, h2⟩ := List.getElem?_zip_eq_some.mp hj
    rw [List.getElem?_map] at h1
    obtain ⟨x, hx1, hx2⟩ := Option.map_eq_some_iff.mp h1
    have hjl : j < kvs.length := by
      have := (List.getElem?_eq_some_iff.mp hx1).1
      omega
    obtain ⟨b, hb, r1, r2, r3⟩ := L2.paired_get rel (List.getElem?_eq_getElem hjl)
    rw [hx1] at hb
    cases hb
    have hk : (kvs.map (·.1))[j]? = some kvs[j].1 := by rw [List.getElem?_map, List.getElem?_eq_getElem hjl]; rfl
    rw [hks, List.getElem?_map, h2] at hk
    have hk : e.2.map Sum.inl = kvs[j].1 := Option.some.inj hk
    rw [← hx2, r2, ← hk, kv_ints]
  refine Calls.call_function_entry PyProof.Rows.kind_sorted PyProof.Rows.plain_sorted PyProof.Rows.entry_sorted (PyProof.Rows.args_sorted1 _) ?_
  unfold Builtin.«sorted»
  refine wpAny_bind (m := checkCount "sorted" 1 1 _) (wpAny_pure ?_)
  refine wpAny_bind (PySem.W.kdu_collect (A := X.A.in1) (rawSrc (es := es) (ep := ep) lo) (I.ok.hd hcalm) hr (by rw [l2, ← l1]; exact z) fun h' tk acc hk hacc => ?_)
  have hal : acc.toList.length = es.size := by rw [Array.length_toList, hacc.1]
  have hae : acc.toList = ((xs'.map (·.2.1)).zip ks).map fun e => Value.ref e.1 := by
    refine List.ext_getElem? fun j => ?_
    by_cases hj : j < acc.toList.length
    · have hj2 : j < xs'.length := by omega
      obtain ⟨en, he, hv⟩ := hacc.2 j acc.toList[j] (by rw [← Array.getElem?_toList]; exact List.getElem?_eq_getElem hj)
      rw [← Array.getElem?_toList, hes, List.getElem?_map, List.getElem?_eq_getElem hj2] at he
      have he : entryOfKey (tupleKind (mixKind X.prog X.w)) xs'[j] = en := Option.some.inj he
      rw [List.getElem?_eq_getElem hj, hv, ← he, List.getElem?_map]
      have hz : ((xs'.map (·.2.1)).zip ks)[j]? = some (xs'[j].2.1, ks[j]'(by omega)) := by
        rw [List.getElem?_zip_eq_some]
        exact ⟨by rw [List.getElem?_map, List.getElem?_eq_getElem hj2]; rfl, List.getElem?_eq_getElem (by omega)⟩
      rw [hz]
      rfl
    · rw [List.getElem?_eq_none (by omega), List.getElem?_eq_none]
      rw [List.length_map, List.length_zip, List.length_map]
      omega
  have I1 : L2.Inv X pins σ H { s with heap := h', toks := tk } := I.kept hk
  refine wpAny_bind (wpAny_newList ?_ (by rw [hal, l2, ← l1]; exact z))
  have hoL : (h'.push (seqObj "list" acc.toList.toArray 0)).get? h'.objs.size = some (seqObj "list" acc.toList.toArray 0) := Heap.get?_push_size _ rfl
  have hkeep : ∀ b o, h'.get? b = some o → b ≠ h'.objs.size ∧ (h'.push (seqObj "list" acc.toList.toArray 0)).get? b = some o := fun b o e => ⟨Nat.ne_of_lt (Heap.lt_size e), Heap.get?_push_of_some _ e⟩
  show wpAny _ _ _ _ _ { s with heap := h'.push (seqObj "list" acc.toList.toArray 0), toks := tk }
  have tis : ∀ v ∈ acc.toList, TiV s.heap v (tiK s.heap v) := fun v hv => by
    rw [hae] at hv
    obtain ⟨e, hm, rfl⟩ := List.mem_map.mp hv
    obtain ⟨j, hj⟩ := List.mem_iff_getElem?.mp hm
    have x : TiV s.heap (.ref e.1) e.2 := ⟨e.1, rfl, ti_of I (at_ j e hj)⟩
    rw [tiK_is x]
    exact x
  refine wpAny_bind (wpAny_holding (wpAny_call_entry PyProof.Rows.slot_list_sort ⟨_, hoL, rfl⟩ PyProof.Rows.entry_list_sort
    (SrtO.list_sort_ord (s := { s with heap := h'.push (seqObj "list" acc.toList.toArray 0), toks := tk }) (swo_key (tiK s.heap)) hoL (by rw [hal, l2, ← l1]; exact z) (fun h2 => ?_) fun out hs hb => ⟨_, rfl, ?_⟩) (PyProof.Rows.args_list_sort _)))
  · refine tis_sortable (by
      show X.A.units + 1 + 1 + 1 < cLine
      omega) (by omega) (fun v hv => IsTI.of_keeps (tis v hv) fun b o e _ => (hkeep b o (hk b o e)).2) fun o e => ?_
    have e' : some o = some (seqObj "list" acc.toList.toArray 0) := e.symm.trans hoL
    cases e'
    intro c
    exact absurd (Value.type.inj c) (by decide)
  · have pe := hb.perm
    rw [hae] at pe
    obtain ⟨zs, pz, ez⟩ := perm_up (fun e : Addr × List Int => Value.ref e.1) pe
    obtain ⟨e', he'⟩ := PyProof.Rows.sortedHeap_at (vs := acc.toList) (out := out.toArray) hoL
    have hzk : ∀ e ∈ zs, H e.1 = some (.tup (e.2.map V.int)) := fun e hm => by
      obtain ⟨j, hj⟩ := List.mem_iff_getElem?.mp (pz.mem_iff.mp hm)
      exact at_ j e hj
    have hks2 : ((xs'.map (·.2.1)).zip ks).map (·.2) = ks := List.map_snd_zip (by rw [List.length_map]; omega)
    have pks : (zs.map (·.2)).Perm ks := by
      have q := pz.map (·.2)
      rw [hks2] at q
      exact q
    have nd : ks.Nodup := by
      have e1 : xs'.map (·.1) = ks.map (·.map Sum.inl) := by
        rw [← hks]
        clear hn hes l1 l2 l3 at_ hae hal hacc tis pe pz hks2 hks ha z
        induction rel with
        | nil => rfl
        | cons r t ih =>
          rw [List.map_cons, List.map_cons, ih, r.1]
      rw [e1] at hn
      exact List.Pairwise.of_map _ (fun a b h e => h (congrArg _ e)) hn
    have srt : (zs.map (·.2)).Pairwise (fun x y => HT.lexLt y x = false) := by
      have h1' := hs
      rw [← ez] at h1'
      have h1'' := List.pairwise_map.mp h1'
      rw [List.pairwise_map]
      refine List.Pairwise.imp_of_mem (fun {x y} hx hy hxy => ?_) h1''
      have ex := tiK_is (h := s.heap) (v := .ref x.1) ⟨x.1, rfl, ti_of I (hzk x hx)⟩
      have ey := tiK_is (h := s.heap) (v := .ref y.1) ⟨y.1, rfl, ti_of I (hzk y hy)⟩
      have hxy : HT.lexLt (tiK s.heap (.ref y.1)) (tiK s.heap (.ref x.1)) = false := hxy
      rw [ex, ey] at hxy
      exact hxy
    have hn0 : H h'.objs.size = none := I1.hok.fresh (Nat.le_refl _)
    refine wpAny_pure ⟨_, rfl, .ref h'.objs.size, upd H h'.objs.size (.lst (zs.map fun z => V.ref z.1)), I1.laid (t' := tk) (fun b u e => ?_) (Nat.le_refl _) ⟨?_, out, e', ?_, he'⟩, rfl, q h'.objs.size zs pks (strict_of srt (pks.nodup_iff.mpr nd)) hzk hn0⟩
    · exact (PyProof.Rows.sortedHeap_old (hkeep b u e).1 (Heap.lt_size (hkeep b u e).2)).trans (hkeep b u e).2
    · have e1 := pz.length_eq
      rw [List.length_map, e1, List.length_zip, List.length_map]
      omega
    · rw [← ez]
      exact vals_refsB (fun e : Addr × List Int => e.1) zs
end

local macro_rules | `(tactic| walk_at "rd1") => `(tactic| first
  | (with_reducible refine r_sl ?_)
  | (with_reducible refine r_part ?_)
  | (with_reducible refine r_some ?_)
  | (with_reducible refine r_nopart ?_)
  | (with_reducible refine r_rng2 ?_)
  | (with_reducible refine r_rng3 ?_)
  | (with_reducible refine r_itL ?_)
  | (with_reducible refine r_itT ?_)
  | (with_reducible refine r_lcT ?_)
  | (with_reducible refine r_lcL ?_)
  | (with_reducible refine r_lc0 ?_))
local macro_rules | `(tactic| walk_at "ri1") => `(tactic| first
  | (with_reducible refine r_sl ?_)
  | (with_reducible refine r_part ?_)
  | (with_reducible refine r_some ?_)
  | (with_reducible refine r_nopart ?_)
  | (with_reducible refine r_rng2 ?_)
  | (with_reducible refine r_rng3 ?_)
  | (with_reducible refine r_itL ?_)
  | (with_reducible refine r_itT ?_)
  | (with_reducible refine r_lcT ?_)
  | (with_reducible refine r_lcL ?_)
  | (with_reducible refine r_lc0 ?_))

/-! ### the digits of a number, as texts -/
section
open PySem.NumText
def dg (n : Nat) : List Nat := (Nat.toDigits 10 n).map Char.toNat
theorem str_dg (n : Nat) : Str.ofString (toString ((n : Nat) : Int)) = S (dg n) := (S_tl _).symm.trans (congrArg S (PySem.W.KIN.signs_num n))
theorem str_dgI {i : Int} (h : 0 ≤ i) : Str.ofString (toString i) = S (dg i.toNat) := by
  have e : ((i.toNat : Nat) : Int) = i := Int.toNat_of_nonneg h
  rw [← str_dg, e]
theorem dgc (d : Nat) (h : d < 10) : (Nat.digitChar d).toNat = 48 + d := by
  revert d
  decide
theorem dg_lt {d : Nat} (h : d < 10) : dg d = [48 + d] := by
  unfold dg
  rw [Nat.toDigits_of_lt_base h]
  show [(Nat.digitChar d).toNat] = _
  rw [dgc d h]
theorem dg_step {n : Nat} (h : 10 ≤ n) : dg n = dg (n / 10) ++ [48 + n % 10] := by
  have hm : n % 10 < 10 := Nat.mod_lt n (by decide)
  have t : Nat.toDigits 10 (n / 10) ++ Nat.toDigits 10 (n % 10) = Nat.toDigits 10 (10 * (n / 10) + n % 10) := Nat.toDigits_append_toDigits (by decide) (by omega) hm
  rw [Nat.div_add_mod] at t
  unfold dg
  rw [← t, List.map_append, Nat.toDigits_of_lt_base hm]
  show _ ++ [(Nat.digitChar (n % 10)).toNat] = _
  rw [dgc _ hm]
theorem dg_val (n : Nat) : digitsVal (dg n) = n := PySem.W.KIN.val_back n
theorem dg_all (n : Nat) : AllDigits (dg n) := by
  induction n using Nat.strongRecOn with
  | _ n ih =>
    by_cases h : n < 10
    · rw [dg_lt h]
      intro c hc
      have e : c = 48 + n := by simpa using hc
      omega
    · rw [dg_step (by omega)]
      intro c hc
      rcases List.mem_append.mp hc with hc | hc
      · exact ih (n / 10) (by omega) c hc
      · have e : c = 48 + n % 10 := by simpa using hc
        omega
theorem dg_pos (n : Nat) : 0 < (dg n).length := by
  by_cases h : n < 10
  · rw [dg_lt h]
    exact Nat.one_pos
  · rw [dg_step (by omega), List.length_append]
    show 0 < _ + 1
    omega
theorem dg_ne (n : Nat) : dg n ≠ [] := fun e => by
  have := dg_pos n
  rw [e] at this
  cases this
theorem dg_len : ∀ (k n : Nat), n < 10 ^ (k + 1) → (dg n).length ≤ k + 1
  | 0, n, h => by
    rw [dg_lt (by simpa using h)]
    exact Nat.le_refl _
  | k + 1, n, h => by
    by_cases c : n < 10
    · rw [dg_lt c]
      show 1 ≤ _
      omega
    · rw [dg_step (by omega), List.length_append]
      have := dg_len k (n / 10) (by rw [Nat.pow_succ] at h; omega)
      show _ + 1 ≤ _
      omega
theorem dg_lenP {k n : Nat} (h : n < 10 ^ k) : (dg n).length ≤ k + 1 := dg_len k n (Nat.lt_of_lt_of_le h (Nat.pow_le_pow_right (by decide) (Nat.le_succ k)))
/-- k digits of r -/
def pad : Nat → Nat → List Nat
  | 0, _ => []
  | k + 1, r => pad k (r / 10) ++ [48 + r % 10]
theorem pad_len : ∀ (k r : Nat), (pad k r).length = k
  | 0, _ => rfl
  | k + 1, r => by
    show (pad k (r / 10) ++ [48 + r % 10]).length = _
    rw [List.length_append, pad_len k]
    rfl
theorem pad_zero : ∀ k : Nat, pad k 0 = List.replicate k 48
  | 0 => rfl
  | k + 1 => by
    show pad k 0 ++ [48] = _
    rw [pad_zero k, List.replicate_succ']
theorem dg_pad : ∀ (k q r : Nat), 0 < q → r < 10 ^ k → dg (q * 10 ^ k + r) = dg q ++ pad k r
  | 0, q, r, _, h => by
    have e : r = 0 := by
      have : (10 : Nat) ^ 0 = 1 := rfl
      omega
    rw [e, Nat.pow_zero, Nat.mul_one, Nat.add_zero]
    exact (List.append_nil _).symm
  | k + 1, q, r, hq, h => by
    have hp : 0 < 10 ^ k := Nat.pow_pos (by decide)
    have e10 : q * 10 ^ (k + 1) = 10 * (q * 10 ^ k) := by
      rw [Nat.pow_succ, ← Nat.mul_assoc, Nat.mul_comm]
    have hge : 1 ≤ q * 10 ^ k := Nat.mul_pos hq hp
    have hr : r / 10 < 10 ^ k := by
      rw [Nat.pow_succ] at h
      omega
    rw [e10, dg_step (by omega), show (10 * (q * 10 ^ k) + r) / 10 = q * 10 ^ k + r / 10 by omega, show (10 * (q * 10 ^ k) + r) % 10 = r % 10 by omega, dg_pad k q (r / 10) hq hr, List.append_assoc]
    rfl
theorem zf : ∀ (k r : Nat), r < 10 ^ (k + 1) → List.replicate (k + 1 - (dg r).length) 48 ++ dg r = pad (k + 1) r
  | 0, r, h => by
    have h : r < 10 := by simpa using h
    rw [dg_lt h]
    show [48 + r] = [48 + r % 10]
    rw [Nat.mod_eq_of_lt h]
  | k + 1, r, h => by
    by_cases c : r < 10
    · rw [dg_lt c]
      show List.replicate (k + 1 + 1 - 1) 48 ++ [48 + r] = pad (k + 1) (r / 10) ++ [48 + r % 10]
      rw [Nat.div_eq_of_lt c, Nat.mod_eq_of_lt c, pad_zero]
      rfl
    · have h2 : r / 10 < 10 ^ (k + 1) := by
        rw [Nat.pow_succ] at h
        omega
      rw [dg_step (by omega), List.length_append]
      show List.replicate (k + 1 + 1 - (_ + 1)) 48 ++ (_ ++ _) = pad (k + 1) (r / 10) ++ [48 + r % 10]
      rw [Nat.add_sub_add_right, ← List.append_assoc, zf k (r / 10) h2]
theorem dg_first (n : Nat) : ∃ c r, dg n = c :: r ∧ 48 ≤ c ∧ c ≤ 57 := by
  cases e : dg n with
  | nil => exact absurd e (dg_ne n)
  | cons c r =>
    have h := dg_all n c (by rw [e]; exact List.mem_cons_self ..)
    exact ⟨c, r, rfl, h⟩
theorem zfill_dg {k r : Nat} (h : r < 10 ^ (k + 1)) : Txt.zfill (S (dg r)) ((k + 1 : Nat) : Int) = S (pad (k + 1) r) := by
  have hl : (S (dg r)).length = (dg r).length := S_len _
  have hk := dg_len k r h
  rw [← zf k r h]
  unfold Txt.zfill
  rw [hl]
  by_cases c : (((k + 1 : Nat) : Int) ≤ ((dg r).length : Int))
  · rw [if_pos c, show k + 1 - (dg r).length = 0 by omega]
    rfl
  · rw [if_neg c]
    obtain ⟨d, t, e, h1, h2⟩ := dg_first r
    have e0 : (S (dg r)).cps[0]? = some d := by
      rw [e]
      rfl
    have e1 : zfilled (S (dg r)) (((k + 1 : Nat) : Int).toNat - (dg r).length) = Builtin.Str.padded (S (dg r)) (((k + 1 : Nat) : Int).toNat - (dg r).length) 0 48 := by
      unfold zfilled
      rw [e0]
      split
      · rename_i q
        cases q
        omega
      · rename_i q
        cases q
        omega
      · rfl
    rw [e1]
    unfold Builtin.Str.padded S
    rw [Int.toNat_natCast]
    congr 1
    apply Array.ext'
    simp
theorem dval_rep (d : List Nat) : ∀ k : Nat, digitsVal (d ++ List.replicate k 48) = digitsVal d * 10 ^ k
  | 0 => by simp
  | k + 1 => by
    rw [List.replicate_succ', ← List.append_assoc, digitsVal_snoc, dval_rep d k, Nat.pow_succ, Nat.sub_self, Nat.add_zero, Nat.mul_assoc]
theorem dval_zeros (d : List Nat) : ∀ k : Nat, digitsVal (List.replicate k 48 ++ d) = digitsVal d
  | 0 => rfl
  | k + 1 => by
    rw [List.replicate_succ, List.cons_append, digitsVal_zero]
    exact dval_zeros d k
theorem all_rep (k : Nat) : AllDigits (List.replicate k 48) := fun c hc => by
  have e := List.eq_of_mem_replicate hc
  omega
theorem all_app {a b : List Nat} (h1 : AllDigits a) (h2 : AllDigits b) : AllDigits (a ++ b) := fun c hc => by
  rcases List.mem_append.mp hc with h | h
  · exact h1 c h
  · exact h2 c h
/-- int(text) of a text of digits, with a sign -/
theorem int_dig {d : List Nat} (h : AllDigits d) (h1 : d ≠ []) (h2 : d.length ≤ 4300) : intText? (S d) = some ((digitsVal d : Nat) : Int) :=
  intText_digits (x := S d) h h1 (by rw [S_len]; exact h2)
theorem int_neg {d : List Nat} (h : AllDigits d) (h1 : d ≠ []) (h2 : d.length < 4300) : intText? (S (45 :: d)) = some (-((digitsVal d : Nat) : Int)) :=
  intText_neg (x := S (45 :: d)) rfl h h1 (by rw [S_len]; exact h2)
theorem int_plus {d : List Nat} (h : AllDigits d) (h1 : d ≠ []) (h2 : d.length < 4300) : intText? (S (43 :: d)) = some ((digitsVal d : Nat) : Int) := by
  have hs : ∀ c ∈ (S (43 :: d)).cps.toList, 33 ≤ c ∧ c < 128 := fun c hc => by
    have hc : c ∈ 43 :: d := hc
    rcases List.mem_cons.mp hc with e | e
    · omega
    · have := h c e
      omega
  have e1 : numTextOf (S (43 :: d)) = 43 :: d := by
    refine if_pos ?_
    rw [← Array.all_toList, List.all_eq_true]
    intro c hc
    exact decide_eq_true (hs c hc).2
  have e2 : numSeenOf (S (43 :: d)) = 43 :: d := by
    show (numTextOf (S (43 :: d))).takeWhile _ = _
    rw [e1]
    refine takeWhile_all fun c hc => ?_
    have := hs c hc
    exact bne_iff_ne.mpr (by omega)
  unfold intText?
  rw [e1, e2, if_pos (beq_self_eq_true _)]
  have e3 : (43 :: d).dropWhile blank = 43 :: d := dropWhile_of (by decide)
  have ec : core (43 :: d) = d := by
    unfold core
    rw [e3]
    show (d.reverse.dropWhile blank).reverse = d
    rw [dropWhile_digits h.reverse, List.reverse_reverse]
  rw [ec, e3, digits_of h h1]
  have hsz := push_size d #[]
  have hv := push_foldl d #[]
  show (if _ ≤ 4300 then some (worth false _) else none) = _
  rw [if_pos (by rw [hsz]; simp only [Array.size_empty]; omega)]
  unfold worth digitsVal
  rw [hv]
  rfl
/-- find of one sign -/
theorem find_none {l : List Nat} {c : Nat} (h : c ∉ l) : Txt.find (S l) (S [c]) = -1 := by
  rcases PyProof.Rows.find_whole (S l) (S [c]) with ⟨e, _⟩ | ⟨i, e, ⟨h1, h2⟩, _⟩
  · exact e
  · exfalso
    unfold Builtin.Str.subAt at h2
    have h3 := congrArg Array.toList (eq_of_beq h2)
    have h4 : ((l.drop i).take 1) = [c] := by
      simpa [S, Str.length] using h3
    have h5 : c ∈ (l.drop i).take 1 := by
      rw [h4]
      exact List.mem_singleton.mpr rfl
    exact h (List.mem_of_mem_drop (List.mem_of_mem_take h5))
theorem find_at {l r : List Nat} {c : Nat} (h : c ∉ l) : Txt.find (S (l ++ c :: r)) (S [c]) = (l.length : Int) := by
  have at_iff : ∀ i : Nat, StrLaws.At (S (l ++ c :: r)) (S [c]) (S (l ++ c :: r)).length i ↔ (l ++ c :: r)[i]? = some c := fun i => by
    unfold StrLaws.At Builtin.Str.subAt
    rw [beq_iff_eq, S_len, S_len]
    constructor
    · rintro ⟨h1, h2⟩
      have h3 := congrArg Array.toList h2
      have h4 : ((l ++ c :: r).drop i).take 1 = [c] := by
        simpa [S, Str.length] using h3
      have h5 := congrArg (fun z : List Nat => z[0]?) h4
      simpa [List.getElem?_take, List.getElem?_drop] using h5
    · intro h1
      obtain ⟨hi, e⟩ := List.getElem?_eq_some_iff.mp h1
      refine ⟨hi, ?_⟩
      apply Array.ext'
      have h4 : ((l ++ c :: r).drop i).take 1 = [c] := by
        rw [List.drop_eq_getElem_cons hi, e]
        rfl
      simpa [S, Str.length] using h4
  rcases PyProof.Rows.find_whole (S (l ++ c :: r)) (S [c]) with ⟨_, hn⟩ | ⟨i, e, h1, h2⟩
  · exact absurd ((at_iff l.length).mpr (by simp)) (hn l.length)
  · rw [e]
    have h1 := (at_iff i).mp h1
    have h3 : i = l.length := by
      rcases Nat.lt_trichotomy i l.length with q | q | q
      · rw [List.getElem?_append_left q] at h1
        exact absurd (List.mem_of_getElem? h1) h
      · exact q
      · exact absurd ((at_iff l.length).mpr (by simp)) (h2 _ q)
    rw [h3]
end

/-! ### texts: str and int of great numbers, a sign many times, join of a row turned round -/
section
open PyProof.Rows
theorem noDig {K : Frg} {h : Heap} (X : K.In h) (e : DigK K) : h.NoDigits := by
  have G := Heap.Ns.of_isNs (PySem.W.isNs_of_in X e.1)
  exact ⟨_, G, PySem.W.ns_none_of X G e.2⟩
theorem call_strW {X : Cx} (hc : X.calm = true) (e : DigK X.K) : CallR X (.type "str") (fun xs H Q => ∃ i : Int, xs = [.int i] ∧ i.natAbs < 10 ^ 4300 ∧ Q (.str (Str.ofString (toString i))) H) := by
  intro pins s σ H xs us Q I r h
  obtain ⟨i, rfl, hz, q⟩ := h
  obtain ⟨u, rfl, t, rfl⟩ := vals1 r
  exact str_of_int_or (I.ok.hd hc) (noDig I.kIn e) (fun _ => ⟨.str _, H, I.tok _, ⟨_, rfl⟩, q⟩) fun h => absurd h (by generalize 10 ^ 4300 = P at *; omega)
theorem op_repS {X : Cx} : OpR X (binaryOp .Mult) (fun x y H Q => ∃ (c : Nat) (n : Int), x = .str (S [c]) ∧ y = .int n ∧ -100000 ≤ n ∧ n ≤ 100000 ∧ Q (.str (S (List.replicate n.toNat c))) H) := by
  intro pins s σ H x y v u Q I rx ry h
  obtain ⟨c, n, rfl, rfl, h0, h1, q⟩ := h
  obtain ⟨t, rfl⟩ := rx
  obtain ⟨t', rfl⟩ := ry
  refine PySem.SB.mul (mulOk_of 1 100000 (Nat.le_refl 1) (by omega) (by omega) (by decide) (by decide)) fun t' k => ⟨.str _, H, I.tok _, ⟨_, rfl⟩, ?_⟩
  have e : Txt.mul (S [c]) n = S (List.replicate n.toNat c) := by
    unfold Txt.mul
    by_cases c1 : n < 1
    · rw [if_pos c1, show n.toNat = 0 by omega]
      rfl
    · rw [if_neg c1]
      by_cases c2 : n = 1
      · subst c2
        rfl
      · have b : (n == 1 || (S [c]).length == 0) = false := by
          have : (n == 1) = false := by simpa using c2
          rw [this]
          rfl
        rw [b, if_neg Bool.false_ne_true]
        have g : ∀ (k : Nat) (a : Array Nat), (List.replicate k (S [c]).cps).foldl (· ++ ·) a = a ++ (List.replicate k c).toArray := by
          intro k
          induction k with
          | zero => intro a; simp
          | succ k ih =>
            intro a
            rw [List.replicate_succ, List.foldl_cons, ih, List.replicate_succ]
            apply Array.ext'
            simp [S]
        rw [g]
        simp [S]
  rw [e]
  exact q
theorem join_rev {prog : Program} {w : World} {A : Around} {E : Value → Shared → Prop} {s : Shared} {x : Str} {t : Tok} {it l : Addr} {items : Array Value} {ys : List Str} {Q : Value → Shared → Prop}
    (hh : A.handled = none) (hit : s.heap.IsRevIter it l ((items.size : Int) - 1)) (hl : s.heap.IsList l items) (hne : l ≠ it) (hn : items.size ≤ sizeLine)
    (hi : ∀ acc : Array Value, ItemsOf (fun i v => items[items.size - 1 - i]? = some v) acc items.size → StrsAre acc.toList ys) (hok : (ys.map (·.length)).sum + ys.length * x.length ≤ 16777216)
    (hq : ∀ h' t' k, (∀ b o, b ≠ it → s.heap.get? b = some o → h'.get? b = some o) → Q (.str (Txt.join x ys) t') { s with heap := h', toks := k }) :
    wpAny (model prog w) A (call (.builtin "str.join") [.str x t, .ref it]) Q E s := by
  refine wpAny_call (codeAny_call_builtin F.slot_str_join.plain F.entry_str_join (F.slot_str_join.check _ _ _ _ _ _ _ _ (typeIs_str _ _ _) (F.args_str_join_2 _ _) ?_))
  rw [join_tree_other]
  refine wpAny_bind (wpAny_typeOf hit.typeIs ?_)
  show wpAny _ A.in1 ((pyIter (.ref it)).tryCatch _ >>= fun it => collect it >>= fun items => joinTail x items) _ _ s
  refine wpAny_bind (wpAny_tryCatch (wpAny_pyIter_revIter hit ?_))
  refine wpAny_bind (RT.collect_rev (A := A.in1) hh hit hl hne hn fun h' tk acc hk hacc => ?_)
  obtain ⟨l', hl', ht⟩ := strsAre_values (hi acc hacc)
  subst ht
  rw [hl']
  have hok' := joinOk_of hok
  unfold JoinOk at hok'
  rw [Bool.not_eq_true'] at hok'
  have g : Gives (joinTail x (strValues l')) (joinMade x l') := by
    have g0 := gives_joinTail x l' hok'
    cases l' with
    | nil => exact g0
    | cons p r => cases r with
      | nil => exact g0
      | cons q r' => exact g0
  exact g prog w A (wants Q E) _ (post_join l' ⟨joinFit_length hok', fun t' k => hq h' t' k hk⟩)
def tJoinRev (K : Frg) (to te : TE) : TE := fun σ H Q => to σ H fun x H1 => (∃ a, x = .str a) ∧ te σ H1 fun v H2 => ∃ (a : Str) (q : Addr) (ys : List Str), x = .str a ∧ v = .ref q ∧ SqL K H2 q (ys.map V.str) ∧
  (ys.reverse.map (·.length)).sum + ys.reverse.length * a.length ≤ 16777216 ∧ Q (.str (Txt.join a ys.reverse)) H2
theorem pe_joinRev {X : Cx} {o e : Expr} {to te : TE} {apos pos p pos2 : Pos} (hc : X.calm = true) (hg : Gl X "reversed") (hm : X.mg "reversed" = none) (ho : PE X o to) (he : PE X e te)
    (hs1 : starEach [.Call (.Name "reversed" p) [e] [] pos2] X.env = [(false, eval (.Call (.Name "reversed" p) [e] [] pos2) X.env)] := by rfl) (hs : starEach [e] X.env = (false, eval e X.env) :: starEach [] X.env := by rfl)
    (hbase : attributeBase o "join" X.env (eval o X.env) = eval o X.env := by rfl) (hline : (apos.endLine == pos.line) = true := by rfl) :
    PE X (.Call (.Attribute o "join" apos) [.Call (.Name "reversed" p) [e] [] pos2] [] pos) (tJoinRev X.K to te) := by
  refine ⟨fun pins s σ H Q I h => ?_⟩
  refine PySem.Call_method1 hbase hs1 hline (thn (ho.run pins s σ H _ I h) fun v s1 ⟨x, H1, I1, r1, q1⟩ => ?_)
  obtain ⟨⟨a, rfl⟩, q1⟩ := q1
  obtain ⟨t, rfl⟩ := _root_.id r1
  refine ⟨"str", _, F.plainAttrs_str, F.slot_str_join, F.type_str_join, typeIs_str _ _ _, (fun _ e => nomatch e), Calls.callWith_builtin rfl (Calls.evalArgs_plain (Calls.spliced_cons ?_))⟩
  refine Call_ (ld_blt I1 hg hm PyProof.Rows.boot_reversed (PyProof.Rows.callWith_type1 (args_cons (thn (he.run pins s1 σ H1 _ I1 q1) fun u s2 ⟨v, H2, I2, r2, q2⟩ => args_nil ?_) hs) hs rfl))
  obtain ⟨a', q, ys, ea, rfl, hq, hz, q2⟩ := q2
  cases ea
  obtain rfl : u = Value.ref q := r2
  obtain ⟨its, rv, p', hsz⟩ := I2.list hq
  refine call_reversed_list p'.isList (Calls.spliced_nil ?_)
  have k0 : ∀ b o, s2.heap.get? b = some o → (s2.heap.push (revObj q ((its.toArray.size : Int) - 1))).get? b = some o := fun b o e => Heap.get?_push_of_some _ e
  have I3 : Inv X pins σ H2 { s2 with heap := s2.heap.push (revObj q ((its.toArray.size : Int) - 1)) } := I2.kept (t' := s2.toks) k0
  obtain ⟨f0, f1, f2, f3, f4, f5⟩ := I2.fpOk (H' := H2) (b := s2.heap.objs.size) (Nat.le_refl _) (I2.hok.fresh (Nat.le_refl _))
  have hl := p'.isList
  obtain ⟨ol, hol, _⟩ := id hl
  have hne : q ≠ s2.heap.objs.size := Nat.ne_of_lt (Heap.lt_size hol)
  have hn : its.toArray.size ≤ sizeLine := by rw [List.size_toArray, ← rv.length]; exact hsz
  refine join_rev (s := { s2 with heap := s2.heap.push (revObj q ((its.toArray.size : Int) - 1)) }) (I2.ok.hd hc) ⟨_, Heap.get?_push_size _ rfl, rfl, rfl⟩ (hl.push _) hne hn (fun acc hacc => ?_) hz fun h' t' k hk => ?_
  · have r3 := RT.vals_rev rv hacc
    rw [← List.map_reverse] at r3
    exact strs_of_vals r3
  · exact ⟨.str _, H2, I3.turned (t' := k) (fun b o hb e => hk b o hb e) f0 f1 f3 f4 f5, ⟨t', rfl⟩, q2⟩
end
/-! int of a text of up to 4,300 digits -/
section
open PySem.Calls PySem.NumText PyProof.Rows PySem.W
theorem wp_textW {M : Model} {A : Around} {E : Value → Shared → Prop} {s : Shared} {Q : Value → Shared → Prop} {v : Value} {text : List Nat} {n : Int} (hn : s.heap.NoDigits)
    (hs : decide ((text.takeWhile (· != 0)).length ≤ 640) = false) (hr : (int_private% "readNumeral") 4300 10 (text.takeWhile (· != 0)) = (int_private% "Numeral.value") n)
    (ha : ((text.takeWhile (· != 0)).length == text.length) = true) (h : Q (.int n s.toks) { s with toks := s.toks + 1 }) :
    wpAny M A ((int_private% "intFromText") v text 10) Q E s := by
  obtain ⟨mc, hns, hnone⟩ := hn
  obtain ⟨hp, g, d, tk, os⟩ := s
  have key : ∀ {A' : Around} {E' : Value → Shared → Prop} {Q' : Nat → Shared → Prop}, Q' 4300 ⟨hp, g, d, tk, os⟩ → wpAny M A' Builtin.intMaxStrDigits Q' E' ⟨hp, g, d, tk, os⟩ := fun q => by
    unfold Builtin.intMaxStrDigits
    refine wpAny_bind (wpAny_nsGet hns ?_)
    rw [hnone]
    exact wpAny_pure q
  repeat (any_goals (first
    | assumption
    | (with_reducible refine wpAny_ite_false hs ?_)
    | (with_reducible refine wpAny_ite_true (decide_eq_true ha) ?_)
    | (with_reducible refine key ?_)
    | wp_step))
  all_goals (try rw [hr])
  all_goals (try dsimp only)
  repeat (any_goals (first
    | assumption
    | (with_reducible refine wpAny_ite_false hs ?_)
    | (with_reducible refine wpAny_ite_true (decide_eq_true ha) ?_)
    | wp_step))
theorem meets_textW {x : PySem.Str} {u : Tok} {n : Int} (hl : x.length ≤ sizeLine) (hn : PySem.intText? x = some n) :
    Meets (Builtin.«int.__new__» ⟨[.type "int", .str x u], []⟩) (fun _ R s => s.heap.NoDigits ∧ R (.ok (.ret (.int n s.toks))) { s with toks := s.toks + 1 }) :=
  .of_wp fun prog w A R s h => by
    obtain ⟨hp, g, d, tk, os⟩ := s
    obtain ⟨hd, h⟩ := h
    have f1 := F.conv_sub_int
    have f2 := F.madeHere_int
    have f3 := KIN.str_int
    have f4 := KIN.str_idx
    have f5 := KIN.str_trunc
    have f6 : typeOf (.str x u) = pure (.type "str") := rfl
    have hr : (int_private% "readNumeral") (numLimitOf x) 10 (numSeenOf x) = (int_private% "Numeral.value") n ∧ ((numSeenOf x).length == (numTextOf x).length) = true := by
      rcases readAny x hl with ⟨m, h1, h2, h3⟩ | ⟨h1, _⟩
      · rw [hn] at h1
        injection h1 with h1
        subst h1
        exact ⟨h3, h2⟩
      · rw [hn] at h1
        cases h1
    have key : ∀ {A' : Around} {E' : Value → Shared → Prop} {Q' : Value → Shared → Prop} {v : Value}, Q' (.int n tk) ⟨hp, g, d, tk + 1, os⟩ → wpAny (model prog w) A' ((int_private% "intFromText") v (numTextOf x) 10) Q' E' ⟨hp, g, d, tk, os⟩ := fun q => by
      by_cases hlen : (numSeenOf x).length ≤ 640
      · have e : numLimitOf x = 0 := if_pos hlen
        rw [e] at hr
        exact KIN.wp_text hlen hr.1 hr.2 q
      · have e : numLimitOf x = 4300 := if_neg hlen
        rw [e] at hr
        exact wp_textW hd (decide_eq_false hlen) hr.1 hr.2 q
    clear hr hl hn
    repeat (any_goals (first
      | assumption
      | (with_reducible refine key ?_)
      | wp_step))
    all_goals first | exact ⟨_, rfl, h⟩ | skip
theorem call_intW {X : Cx} (e : DigK X.K) : CallR X (.type "int") (fun xs H Q => ∃ (a : Str) (n : Int), xs = [.str a] ∧ PySem.intText? a = some n ∧ a.length ≤ 16777216 ∧ Q (.int n) H) := by
  intro pins s σ H xs us Q I r h
  obtain ⟨a, n, rfl, hn, hl, q⟩ := h
  obtain ⟨u, rfl, t, rfl⟩ := vals1 r
  exact call_int_1 (meets_textW (by rw [sizeLine_eq]; exact hl) hn) ⟨noDig I.kIn e, rfl, ⟨.int n, H, I.tok _, ⟨_, rfl⟩, q⟩⟩
end
/-! readings -/
section
variable {σ : St} {H : Hp} {Q : VK} {K : Frg}
theorem r_joinRev {to te : TE} (h : to σ H fun x H1 => (∃ a, x = .str a) ∧ te σ H1 fun v H2 => ∃ (a : Str) (q : Addr) (ys : List Str), x = .str a ∧ v = .ref q ∧ SqL K H2 q (ys.map V.str) ∧
  (ys.reverse.map (·.length)).sum + ys.reverse.length * a.length ≤ 16777216 ∧ Q (.str (Txt.join a ys.reverse)) H2) : tJoinRev K to te σ H Q := h
theorem r_addS {a b : List Nat} (hl : a.length + b.length ≤ 1000000) (h : Q (.str (S (a ++ b))) H) : ∃ i j, V.str (S a) = .str i ∧ V.str (S b) = .str j ∧ i.length + j.length ≤ sizeLine ∧ Q (.str (i ++ j)) H :=
  ⟨_, _, rfl, rfl, by rw [S_len, S_len, sizeLine_eq]; omega, by rw [S_cat]; exact h⟩
theorem r_ixS {a : List Nat} {i c : Nat} (hl : a.length ≤ 1000000) (e : a[i]? = some c) (h : Q (.str (S [c])) H) : rIxS (.str (S a)) (.int (i : Int)) H Q :=
  ⟨_, _, c, rfl, rfl, by rw [S_len, sizeLine_eq]; omega, atI_nat e, h⟩
theorem r_slS {a b : List Nat} {lo hi : Option Int} (hl : a.length ≤ 1000000) (e : cutS (S a) lo hi = S b) (h : Q (.str (S b)) H) : rSlS (.str (S a)) lo hi H Q :=
  ⟨_, rfl, by rw [S_len, sizeLine_eq]; omega, by rw [e]; exact h⟩
theorem cutS_from {a : List Nat} {i : Int} (h : 0 ≤ i) : cutS (S a) (some i) none = S (a.drop i.toNat) := by
  rw [C8.cutS_slice]
  exact slice_from h
theorem cutS_to {a : List Nat} {i : Int} (h : 0 ≤ i) : cutS (S a) none (some i) = S (a.take i.toNat) := by
  rw [C8.cutS_slice]
  exact slice_to h
theorem r_lenS {d : List Nat} {R : Str → Prop} (hl : d.length ≤ 1000000) (h : R (S d)) : ∃ z, [V.str (S d)] = [V.str z] ∧ z.length ≤ sizeLine ∧ R z :=
  ⟨_, rfl, by rw [S_len, sizeLine_eq]; omega, h⟩
theorem r_add {x y : Str} {a b : List Nat} {R : Str → Str → Prop} (ex : x = S a) (ey : y = S b) (hl : a.length + b.length ≤ 1000000) (h : R (S a) (S b)) : ∃ i j, V.str x = .str i ∧ V.str y = .str j ∧ i.length + j.length ≤ sizeLine ∧ R i j := by
  subst ex ey
  exact ⟨_, _, rfl, rfl, by rw [S_len, S_len, sizeLine_eq]; omega, h⟩
theorem r_rep {x : Str} {n : Int} {c : Nat} {R : Nat → Int → Prop} (ex : x = S [c]) (h0 : -100000 ≤ n) (h1 : n ≤ 100000) (h : R c n) : ∃ (c : Nat) (m : Int), V.str x = .str (S [c]) ∧ V.int n = .int m ∧ -100000 ≤ m ∧ m ≤ 100000 ∧ R c m :=
  ⟨c, n, by rw [ex], rfl, h0, h1, h⟩
theorem r_slF {a : List Nat} {i : Int} (h0 : 0 ≤ i) (hl : a.length ≤ 1000000) (h : Q (.str (S (a.drop i.toNat))) H) : rSlS (.str (S a)) (some i) none H Q := r_slS hl (cutS_from h0) h
theorem r_slT {a : List Nat} {i : Int} (h0 : 0 ≤ i) (hl : a.length ≤ 1000000) (h : Q (.str (S (a.take i.toNat))) H) : rSlS (.str (S a)) none (some i) H Q := r_slS hl (cutS_to h0) h
end

/-! ### digits_of -/
abbrev s_digits_of : Stmt := (top 14)
theorem sc_digits_of : FnScope ["n", "pieces", "piece"] ["n"] (defScope s_digits_of) := ⟨rfl, rfl, rfl, by decide +kernel, rfl, by decide +kernel, by decide +kernel⟩
def sp_digits_of (K : Frg) : Sp := sp1 fun a H Q _ => ∃ n : Nat, a = .int (n : Int) ∧ n < 10 ^ 4000 ∧ ∀ H', Same H H' → Q (.str (S (dg n))) H'
theorem flat_len : ∀ (ps : List (List Nat)), (ps.map (·.length)).sum = ps.flatten.length
  | [] => rfl
  | p :: ps => by
    rw [List.map_cons, List.sum_cons, List.flatten_cons, List.length_append, flat_len ps]
theorem joinL_nil (ps : List (List Nat)) : Txt.join (S []) (ps.map S) = S ps.flatten := by
  rw [join_S]
  congr 2
  induction ps with
  | nil => rfl
  | cons p ps ih =>
    cases ps with
    | nil => simp [TL.joinL]
    | cons q ps =>
      show p ++ ([] ++ TL.joinL [] (q :: ps)) = _
      rw [ih, List.nil_append]
      rfl
theorem lt4000 {n : Nat} (h : n < 10 ^ 4000) : (dg n).length ≤ 4001 := dg_lenP h
theorem log_lt {i : Int} {k : Nat} (h : i.natAbs < 2 ^ k) (hk : k ≤ 1920) (h0 : 0 < k) : i.natAbs.log2 < 1920 := by
  by_cases e : i.natAbs = 0
  · rw [e]
    decide
  · exact Nat.lt_of_lt_of_le ((Nat.log2_lt e).mpr h) hk
section
variable {P : Program} {w : World} {K : PySem.W.Frag} {mg : Str → Option Value} {base : Heap} {f : Addr} {fd : FuncData}
theorem ok_digits_of (F : FunD K "digits_of" "digits_of" (defArgs s_digits_of) (defBody s_digits_of) (defScope s_digits_of) [] [] (glAd "digits_of" K) fd) (m : mg "digits_of" = some (.ref (glAd "digits_of" K))) (nb : Nm K mg) : Cal P w K mg base 1 "digits_of" (sp_digits_of K) [] := by
  refine calD F m sc_digits_of (fun _ _ _ _ _ _ us hl => match us, hl with | [_], _ => rfl) len1 (fun cdv A outer s H vs Q E hr h => ⟨_, (pss_cons (ps_set (i := 1) sc_digits_of.nd rfl (Or.inl rfl) (pe_lst pa_nil))
    (pss_cons (ps_while PassesOwn.never (pt_cmpR op_ge (pv 0) (pe_gc rfl nb.g_PIECE) (nomark _))
    (pss_cons (ps_asg (pe_callB call_divmodW (by rfl) nb.divmod (by decide +kernel) (pa_cons (pv 0) (pa_cons (pe_gc rfl nb.g_PIECE) pa_nil))) (pg_tup rfl (pgs_cons (pg_name (i := 0) sc_digits_of.nd rfl (Or.inl rfl)) (pgs_cons (pg_name (i := 2) sc_digits_of.nd rfl (Or.inl rfl)) pgs_nil))))
    (pss_one (ps_expr (pe_bm PySem.F.plainAttrs_list PySem.F.slot_list_append PySem.F.type_list_append mt_append (pv 1) (pa_cons (pe_bm PySem.F.plainAttrs_str PySem.F.slot_str_zfill PySem.F.type_str_zfill mt_zfill (pe_callTy call_str_int (by rfl) nb.str (by decide +kernel) (pa_cons (pv 2) pa_nil)) (pa_cons (pe_gc rfl nb.g_PIECE_DIGITS) pa_nil)) pa_nil))))))
    (pss_cons (ps_expr (pe_bm PySem.F.plainAttrs_list PySem.F.slot_list_append PySem.F.type_list_append mt_append (pv 1) (pa_cons (pe_callTy call_str_int (by rfl) nb.str (by decide +kernel) (pa_cons (pv 0) pa_nil)) pa_nil)))
    (pss_one (ps_ret (pe_joinRev rfl rfl nb.reversed pe_str (pv 1))))))), ?_⟩)
  obtain ⟨_, rfl, n, rfl, hn, h⟩ := h
  have hl := lt4000 hn
  generalize 10 ^ 4000 = big at hn
  walk_at "rd"
  refine ⟨Nat.zero_le _, fun p hp => ?_⟩
  walk_at "rd"
  refine r_while (fun k σ H' => ∃ (ps : List (List Nat)) (y : Option V), σ = [some (.int (k : Int)), some (.ref p), y] ∧ dg n = dg k ++ ps.reverse.flatten ∧ H' p = some (.lst ((ps.map S).map V.str)) ∧ Same H H' ∧ ps.length ≤ ps.reverse.flatten.length) n ⟨[], none, rfl, by simp, upd_same, same_upd hp _, Nat.le_refl _⟩ ?_
  rintro k σ H1 ⟨ps, y, rfl, e, hp1, s1, hps⟩
  have hlen : (dg k).length + ps.reverse.flatten.length = (dg n).length := by rw [e, List.length_append]
  walk_at "rd"
  refine r_ite (fun c => ?_) (fun c => ?_)
  · refine r_turn ?_
    walk_at "rd"
    refine ⟨_, _, rfl, ⟨by decide, PyProof.noPylong_of_log2 (by decide +kernel)⟩, fun q hq => ?_⟩
    have s2 := same_upd hq (.tup [.int ((k : Int) / 10000000000000000000000000000000000000000000000000000000000000000), .int ((k : Int) % 10000000000000000000000000000000000000000000000000000000000000000)])
    refine r_gtup (SqT.of upd_same) rfl ?_
    walk_at "rd"
    refine ⟨tyL (s2 _ _ hp1), ?_⟩
    walk_at "rd"
    have e64 : (10 : Nat) ^ 64 = 10000000000000000000000000000000000000000000000000000000000000000 := by decide
    have er : (k : Int) % 10000000000000000000000000000000000000000000000000000000000000000 = ((k % 10 ^ 64 : Nat) : Int) := by
      rw [e64]
      omega
    have eq : (k : Int) / 10000000000000000000000000000000000000000000000000000000000000000 = ((k / 10 ^ 64 : Nat) : Int) := by
      rw [e64]
      omega
    have hr : k % 10 ^ 64 < 10 ^ (63 + 1) := Nat.mod_lt _ (Nat.pow_pos (by decide))
    have hq0 : 0 < k / 10 ^ 64 := Nat.div_pos (by rw [e64]; omega) (Nat.pow_pos (by decide))
    have hk : dg k = dg (k / 10 ^ 64) ++ pad 64 (k % 10 ^ 64) := by
      have q := dg_pad 64 (k / 10 ^ 64) (k % 10 ^ 64) hq0 hr
      rw [Nat.mul_comm, Nat.div_add_mod] at q
      exact q
    have hlt : k / 10 ^ 64 < k := Nat.div_lt_self (by rw [e64] at hq0; omega) (by decide)
    rw [er, eq] at *
    refine ⟨?_, ?_⟩
    · refine log_lt (k := 256) ?_ (by decide) (by decide)
      rw [Int.natAbs_natCast]
      exact Nat.lt_trans hr (by decide)
    rw [str_dg]
    refine ⟨rfl, ?_⟩
    walk_at "rd"
    refine ⟨_, _, rfl, rfl, by decide, ?_⟩
    rw [show (64 : Int) = ((63 + 1 : Nat) : Int) from rfl, zfill_dg hr]
    walk_at "rd"
    refine r_app (s2 _ _ hp1) (small4k (by rw [List.length_map, List.length_map]; have := List.length_reverse (as := ps); have := dg_pos k; omega)) ?_
    walk_at "rd"
    refine ⟨k / 10 ^ 64, hlt, ps ++ [pad 64 (k % 10 ^ 64)], _, rfl, ?_, ?_, ?_, ?_⟩
    · rw [e, hk, List.reverse_append]
      simp
    · rw [upd_same]
      simp
    · intro b o hb
      rw [upd_ne (ne_of_none hb hp)]
      exact s2 _ _ (s1 _ _ hb)
    · rw [List.reverse_append, List.length_append]
      have := pad_len 64 (k % 10 ^ 64)
      simp only [List.reverse_cons, List.reverse_nil, List.nil_append, List.cons_append, List.flatten_cons, List.length_append, this, List.length_cons, List.length_nil]
      omega
  · walk_at "rd"
    refine ⟨tyL hp1, ?_⟩
    walk_at "rd"
    refine ⟨log_lt (k := 256) (by rw [Int.natAbs_natCast]; omega) (by decide) (by decide), ?_⟩
    walk_at "rd"
    rw [str_dg]
    refine r_app hp1 (small4k (by rw [List.length_map, List.length_map]; have := dg_pos k; omega)) ?_
    walk_at "rd"
    refine r_joinRev ?_
    walk_at "rd"
    refine ⟨⟨_, rfl⟩, ?_⟩
    walk_at "rd"
    have e2 : (ps.map S).map V.str ++ [V.str (S (dg k))] = ((ps ++ [dg k]).map S).map V.str := by simp
    refine ⟨S [], p, (ps ++ [dg k]).map S, rfl, rfl, SqL.of (by rw [upd_same, e2]), ?_, ?_⟩
    · rw [← List.map_reverse, lens, flat_len, List.length_map]
      simp only [List.reverse_append, List.reverse_cons, List.reverse_nil, List.nil_append, List.cons_append, List.flatten_cons, List.length_append, List.length_cons, List.length_reverse]
      show _ + _ * 0 ≤ _
      omega
    · rw [← List.map_reverse, joinL_nil]
      have e3 : (ps ++ [dg k]).reverse.flatten = dg n := by
        rw [e, List.reverse_append]
        rfl
      rw [e3]
      refine h _ fun b o hb => ?_
      rw [upd_ne (ne_of_none hb hp)]
      exact s1 _ _ hb
end

/-! ### nested values, and where they stand -/
theorem hu65 {A : Around} {k : Nat} (hr : Room k A) : A.units + 65 < cLine := by
  have := hr.un
  omega
theorem ps_never {X : Cx} {st : Stmt} : PS X st (fun _ _ _ => False) := ⟨fun _ _ _ _ _ _ h => h.elim⟩
inductive Vl where
  | lf (k : Str) (r : List PyData)
  | ls (xs : List Vl)
  | mp (es : List (List Int × Vl))
def kd (k : List Int) : PyData := .tuple (k.map PyData.int)
mutual
def Vl.dat : Vl → PyData
  | .lf k r => .tuple (.str k :: r)
  | .ls xs => .tuple [.str "list", .tuple (datL xs)]
  | .mp es => .tuple [.str "map", .tuple (datM es)]
def datL : List Vl → List PyData
  | [] => []
  | x :: xs => x.dat :: datL xs
def datM : List (List Int × Vl) → List PyData
  | [] => []
  | (k, v) :: es => .tuple [kd k, v.dat] :: datM es
end
/-- leaves -/
inductive Lf : Str → List PyData → Prop
  | null : Lf "null" []
  | truth (b : Bool) : Lf "truth" [.bool b]
  | number (m e : Int) : Lf "number" [.int m, .int e]
  | bytes (os : List Int) (h : os.length ≤ 300) : Lf "bytes" [kd os]
  | text (ps : List Int) (h : ps.length ≤ 200) : Lf "text" [kd ps]
mutual
def Vl.ok : Nat → Vl → Prop
  | _, .lf k r => Lf k r
  | 0, .ls _ => False
  | n + 1, .ls xs => xs.length ≤ 49 ∧ vokL n xs
  | 0, .mp _ => False
  | n + 1, .mp es => es.length ≤ 49 ∧ (es.map (·.1)).Pairwise (fun x y => HT.lexLt x y = true) ∧ (∀ e ∈ es, e.1.length ≤ 200) ∧ vokM n es
def vokL : Nat → List Vl → Prop
  | _, [] => True
  | n, x :: xs => x.ok n ∧ vokL n xs
def vokM : Nat → List (List Int × Vl) → Prop
  | _, [] => True
  | n, (_, v) :: es => v.ok n ∧ vokM n es
end
theorem vokL_app : ∀ {n : Nat} {xs ys : List Vl}, vokL n xs → vokL n ys → vokL n (xs ++ ys)
  | _, [], _, _, h => h
  | _, x :: xs, _, h1, h2 => ⟨h1.1, vokL_app h1.2 h2⟩
theorem vokL_mem : ∀ {n : Nat} {xs : List Vl}, vokL n xs → ∀ x ∈ xs, x.ok n
  | _, [], _, x, h => absurd h (by simp)
  | _, y :: ys, h, x, hx => by
    rcases List.mem_cons.mp hx with e | e
    · rw [e]
      exact h.1
    · exact vokL_mem h.2 x e
theorem vokM_mem : ∀ {n : Nat} {es : List (List Int × Vl)}, vokM n es → ∀ e ∈ es, e.2.ok n
  | _, [], _, x, h => absurd h (by simp)
  | _, (k, v) :: ys, h, x, hx => by
    rcases List.mem_cons.mp hx with e | e
    · rw [e]
      exact h.1
    · exact vokM_mem h.2 x e
theorem vokM_of : ∀ {n : Nat} {es : List (List Int × Vl)}, (∀ e ∈ es, e.2.ok n) → vokM n es
  | _, [], _ => trivial
  | _, (k, v) :: ys, h => ⟨h _ (List.mem_cons_self ..), vokM_of fun e he => h e (List.mem_cons_of_mem _ he)⟩
theorem datL_app : ∀ (xs ys : List Vl), datL (xs ++ ys) = datL xs ++ datL ys
  | [], _ => rfl
  | x :: xs, ys => congrArg (x.dat :: ·) (datL_app xs ys)
theorem datM_map : ∀ (es : List (List Int × Vl)), datM es = es.map fun e => .tuple [kd e.1, e.2.dat]
  | [] => rfl
  | (k, v) :: es => congrArg (PyData.tuple [kd k, v.dat] :: ·) (datM_map es)
theorem datL_map : ∀ (xs : List Vl), datL xs = xs.map Vl.dat
  | [] => rfl
  | x :: xs => congrArg (x.dat :: ·) (datL_map xs)
mutual
inductive Tp (H : Hp) : V → PyData → Prop
  | non : Tp H .non .none
  | bl (b : Bool) : Tp H (.bl b) (.bool b)
  | int (i : Int) : Tp H (.int i) (.int i)
  | str (x : Str) : Tp H (.str x) (.str x)
  | tup {a : Addr} {xs : List V} {ds : List PyData} : H a = some (.tup xs) → TpAll H xs ds → Tp H (.ref a) (.tuple ds)
inductive TpAll (H : Hp) : List V → List PyData → Prop
  | nil : TpAll H [] []
  | cons {v : V} {vs : List V} {d : PyData} {ds : List PyData} : Tp H v d → TpAll H vs ds → TpAll H (v :: vs) (d :: ds)
end
/-- tuples stay -/
def Tk (H H' : Hp) : Prop := ∀ a xs, H a = some (.tup xs) → H' a = some (.tup xs)
theorem Tk.refl (H : Hp) : Tk H H := fun _ _ h => h
theorem Tk.trans {H H1 H2 : Hp} (a : Tk H H1) (b : Tk H1 H2) : Tk H H2 := fun c xs h => b c xs (a c xs h)
theorem Same.tk {H H' : Hp} (s : Same H H') : Tk H H' := fun a xs h => s a _ h
theorem tk_put {H : Hp} {a : Addr} {xs : List V} {o : HO} (h : H a = some (.lst xs)) : Tk H (upd H a o) := fun b ys hb => by
  rw [upd_ne (fun e => by rw [e, h] at hb; cases hb)]
  exact hb
theorem tk_but {H H' : Hp} {a : Addr} {xs : List V} (h : H a = some (.lst xs)) (k : ∀ b o, b ≠ a → H b = some o → H' b = some o) : Tk H H' := fun b ys hb => k b _ (fun e => by rw [e, h] at hb; cases hb) hb
theorem keep_tk {K : Frg} {S : SC} {H H' : Hp} (L : LS K S H) (k : Keep S H H') : Tk H H' := by
  obtain ⟨k1, l, f, e⟩ := L.st
  exact tk_but e fun b o n h => k b o n h
mutual
theorem Tp.tk {H H' : Hp} (k : Tk H H') : ∀ (d : PyData) (v : V), Tp H v d → Tp H' v d
  | .none, _, h => by cases h; exact .non
  | .bool b, _, h => by cases h; exact .bl b
  | .int i, _, h => by cases h; exact .int i
  | .str x, _, h => by cases h; exact .str x
  | .tuple ds, _, h => by
    cases h with
    | tup h1 h2 => exact .tup (k _ _ h1) (TpAll.tk k ds _ h2)
  | .list ds, _, h => by cases h
  | .dict ds, _, h => by cases h
theorem TpAll.tk {H H' : Hp} (k : Tk H H') : ∀ (ds : List PyData) (vs : List V), TpAll H vs ds → TpAll H' vs ds
  | [], _, h => by cases h; exact .nil
  | d :: ds, _, h => by
    cases h with
    | cons h1 h2 => exact .cons (Tp.tk k d _ h1) (TpAll.tk k ds _ h2)
end
mutual
theorem Tp.dp {K : Frg} {H : Hp} : ∀ (d : PyData) (v : V), Tp H v d → Dp K H v d
  | .none, _, h => by cases h; exact .non
  | .bool b, _, h => by cases h; exact .bl b
  | .int i, _, h => by cases h; exact .int i
  | .str x, _, h => by cases h; exact .str x
  | .tuple ds, _, h => by
    cases h with
    | tup h1 h2 => exact .tup (SqT.of h1) (TpAll.dp ds _ h2)
  | .list ds, _, h => by cases h
  | .dict ds, _, h => by cases h
theorem TpAll.dp {K : Frg} {H : Hp} : ∀ (ds : List PyData) (vs : List V), TpAll H vs ds → DpAll K H vs ds
  | [], _, h => by cases h; exact .nil
  | d :: ds, _, h => by
    cases h with
    | cons h1 h2 => exact .cons (Tp.dp d _ h1) (TpAll.dp ds _ h2)
end
theorem tp_tup {H : Hp} {v : V} {ds : List PyData} (h : Tp H v (.tuple ds)) : ∃ a xs, v = .ref a ∧ H a = some (.tup xs) ∧ TpAll H xs ds := by
  cases h with
  | tup h1 h2 => exact ⟨_, _, rfl, h1, h2⟩
theorem tp_ints {H : Hp} : ∀ (ns : List Int), TpAll H (ns.map V.int) (ns.map PyData.int)
  | [] => .nil
  | n :: ns => .cons (.int n) (tp_ints ns)
theorem tp_intsB {H : Hp} : ∀ {xs : List V} (ns : List Int), TpAll H xs (ns.map PyData.int) → xs = ns.map V.int
  | _, [], h => by
    cases h
    rfl
  | _, n :: ns, h => by
    cases h with
    | cons h t =>
      cases h
      rw [tp_intsB ns t]
      rfl
theorem tp_kd {H : Hp} {a : Addr} {ns : List Int} (h : H a = some (.tup (ns.map V.int))) : Tp H (.ref a) (kd ns) := .tup h (tp_ints ns)
theorem tp_kdB {H : Hp} {v : V} {ns : List Int} (h : Tp H v (kd ns)) : ∃ a, v = .ref a ∧ H a = some (.tup (ns.map V.int)) := by
  obtain ⟨a, xs, rfl, h1, h2⟩ := tp_tup h
  rw [tp_intsB ns h2] at h1
  exact ⟨a, rfl, h1⟩
theorem tpAll_app {H : Hp} : ∀ {xs ys : List V} {ds es : List PyData}, TpAll H xs ds → TpAll H ys es → TpAll H (xs ++ ys) (ds ++ es)
  | _, _, _, _, .nil, h => h
  | _, _, _, _, .cons h1 h2, h => .cons h1 (tpAll_app h2 h)
theorem tpAll_len {H : Hp} : ∀ {xs : List V} {ds : List PyData}, TpAll H xs ds → xs.length = ds.length
  | _, _, .nil => rfl
  | _, _, .cons _ h => congrArg (· + 1) (tpAll_len h)
theorem tpAll_get {H : Hp} : ∀ {xs : List V} {ds : List PyData} {i : Nat} {x : V}, TpAll H xs ds → xs[i]? = some x → ∃ d, ds[i]? = some d ∧ Tp H x d
  | [], _, _, _, _, e => by simp at e
  | x :: xs, _, 0, _, .cons h t, e => by
    cases (show some x = some _ from e)
    exact ⟨_, rfl, h⟩
  | x :: xs, _, i + 1, _, .cons h t, e => by
    obtain ⟨d, e1, h1⟩ := tpAll_get (i := i) t (by simpa using e)
    exact ⟨d, by simpa using e1, h1⟩
theorem lay_kds : ∀ (ks : List (List Int)), PyData.canLayAll0 (ks.map kd) = true
  | [] => rfl
  | k :: ks => by
    show (PyData.canLay0 (kd k) && PyData.canLayAll0 (ks.map kd)) = true
    rw [lay_kds ks, show PyData.canLay0 (kd k) = true from lay_kd k]
    rfl
theorem depth_kd1 (k : List Int) : (kd k).depth ≤ 1 := depth_kd k
theorem depth_kds : ∀ (ks : List (List Int)), PyData.depthAll (ks.map kd) ≤ 1
  | [] => by simp [PyData.depthAll]
  | k :: ks => by
    have e := depth_kds ks
    have e2 := depth_kd k
    show max (PyData.depth (kd k)) (PyData.depthAll (ks.map kd)) ≤ 1
    exact Nat.max_le.mpr ⟨e2, e⟩
theorem shaped_kd (k : List Int) : SeqAt.shaped (kd k) = true := by
  unfold SeqAt.shaped
  rw [show PyData.canLay0 (kd k) = true from lay_kd k, decide_eq_true (Nat.le_trans (depth_kd1 k) (by decide))]
  rfl
theorem shaped_kds (ks : List (List Int)) : SeqAt.shaped (.list (ks.map kd)) = true := by
  unfold SeqAt.shaped
  rw [show PyData.canLay0 (.list (ks.map kd)) = true from lay_kds ks, decide_eq_true]
  · rfl
  · have e := depth_kds ks
    show PyData.depthAll (ks.map kd) + 1 ≤ 64
    omega
theorem eqv_kds (k : List Int) : ∀ (ks : List (List Int)), ((ks.map kd).any fun z => PyData.eqv z (kd k)) = decide (k ∈ ks)
  | [] => rfl
  | x :: ks => by
    show (PyData.eqv (kd x) (kd k) || ((ks.map kd).any fun z => PyData.eqv z (kd k))) = _
    rw [eqv_kds k ks, show PyData.eqv (kd x) (kd k) = decide (x = k) from eqv_kd x k]
    by_cases e : x = k
    · rw [e]
      simp
    · rw [decide_eq_false e]
      have : decide (k ∈ x :: ks) = decide (k ∈ ks) := decide_eq_decide.mpr ⟨fun q => by
        rcases List.mem_cons.mp q with q | q
        · exact absurd q.symm e
        · exact q, fun q => List.mem_cons_of_mem _ q⟩
      rw [this]
      rfl

/-! ### UTF-8, written -/
def enc1 (c : Int) : List Int :=
  if c < 128 then [c] else if c < 2048 then [192 + c / 64, 128 + c % 64] else if c < 65536 then [224 + c / 4096, 128 + c / 64 % 64, 128 + c % 64]
  else [240 + c / 262144, 128 + c / 4096 % 64, 128 + c / 64 % 64, 128 + c % 64]
def encs (cs : List Int) : List Int := cs.flatMap enc1
def mark8 (m : Int) : Int := if m = 1 then 192 else if m = 2 then 224 else 240
/-- a list or tuple of numbers at a -/
def RowAt (H : Hp) (a : Addr) (zs : List Int) : Prop := H a = some (.lst (zs.map V.int)) ∨ H a = some (.tup (zs.map V.int))
def Point (c : Int) : Prop := 0 ≤ c ∧ c ≤ 1114111 ∧ True
def mm8 (c : Int) : Int := if c < 2048 then 1 else if c < 65536 then 2 else 3
theorem mm8_is (c : Int) : mm8 c = 1 ∨ mm8 c = 2 ∨ mm8 c = 3 := by
  unfold mm8
  split
  · exact .inl rfl
  · split
    · exact .inr (.inl rfl)
    · exact .inr (.inr rfl)
theorem enc_low {c : Int} (h : c < 128) : enc1 c = [c] := if_pos h
theorem enc_long {c : Int} (hc : 128 ≤ c) : (c < 2048 ∧ mm8 c = 1 ∧ enc1 c = [192 + c / 64, 128 + c % 64]) ∨ (2048 ≤ c ∧ c < 65536 ∧ mm8 c = 2 ∧ enc1 c = [224 + c / 4096, 128 + c / 64 % 64, 128 + c % 64]) ∨
    (65536 ≤ c ∧ mm8 c = 3 ∧ enc1 c = [240 + c / 262144, 128 + c / 4096 % 64, 128 + c / 64 % 64, 128 + c % 64]) := by
  have h0 : ¬ c < 128 := by omega
  by_cases c1 : c < 2048
  · refine .inl ⟨c1, if_pos c1, ?_⟩
    unfold enc1
    rw [if_neg h0, if_pos c1]
  · by_cases c2 : c < 65536
    · refine .inr (.inl ⟨by omega, c2, ?_, ?_⟩)
      · unfold mm8
        rw [if_neg c1, if_pos c2]
      · unfold enc1
        rw [if_neg h0, if_neg c1, if_pos c2]
    · refine .inr (.inr ⟨by omega, ?_, ?_⟩)
      · unfold mm8
        rw [if_neg c1, if_neg c2]
      · unfold enc1
        rw [if_neg h0, if_neg c1, if_neg c2]
theorem long_zero {c : Int} (hc : 128 ≤ c) : [mark8 (mm8 c) + c / 2 ^ (6 * mm8 c).toNat] = (enc1 c).take 1 := by
  rcases enc_long hc with ⟨_, e1, e2⟩ | ⟨_, _, e1, e2⟩ | ⟨_, e1, e2⟩ <;> rw [e1, e2] <;> rfl
theorem long_step {c : Int} {i : Nat} (hc : 128 ≤ c) (hi : i < (mm8 c).toNat) : (enc1 c).take (i + 1) ++ [128 + c / 2 ^ (6 * mm8 c - 6 + (i : Int) * (-6)).toNat % 64] = (enc1 c).take (i + 2) := by
  rcases enc_long hc with ⟨_, e1, e2⟩ | ⟨_, _, e1, e2⟩ | ⟨_, e1, e2⟩
  · rw [e1] at hi ⊢
    rw [e2]
    have e : i = 0 := by
      have : i < 1 := hi
      omega
    subst e
    show [192 + c / 64, 128 + c / 1 % 64] = [192 + c / 64, 128 + c % 64]
    rw [Int.ediv_one]
  · rw [e1] at hi ⊢
    rw [e2]
    have e : i = 0 ∨ i = 1 := by
      have : i < 2 := hi
      omega
    rcases e with e | e
    · subst e
      rfl
    · subst e
      show [224 + c / 4096, 128 + c / 64 % 64, 128 + c / 1 % 64] = [224 + c / 4096, 128 + c / 64 % 64, 128 + c % 64]
      rw [Int.ediv_one]
  · rw [e1] at hi ⊢
    rw [e2]
    have e : i = 0 ∨ i = 1 ∨ i = 2 := by
      have : i < 3 := hi
      omega
    rcases e with e | e | e
    · subst e
      rfl
    · subst e
      rfl
    · subst e
      show [240 + c / 262144, 128 + c / 4096 % 64, 128 + c / 64 % 64, 128 + c / 1 % 64] = [240 + c / 262144, 128 + c / 4096 % 64, 128 + c / 64 % 64, 128 + c % 64]
      rw [Int.ediv_one]
theorem long_all {c : Int} (hc : 128 ≤ c) : (enc1 c).take ((mm8 c).toNat + 1) = enc1 c := by
  rcases enc_long hc with ⟨_, e1, e2⟩ | ⟨_, _, e1, e2⟩ | ⟨_, e1, e2⟩ <;> rw [e1, e2] <;> rfl
theorem mark8_at (m : Int) (h : m = 1 ∨ m = 2 ∨ m = 3) : atI ([0, 192, 224, 240].map V.int) m = some (.int (mark8 m)) := by
  rcases h with e | e | e <;> rw [e] <;> rfl
theorem len_enc1 (c : Int) : 1 ≤ (enc1 c).length ∧ (enc1 c).length ≤ 4 := by
  by_cases h : c < 128
  · rw [enc_low h]
    simp
  · rcases enc_long (by omega : 128 ≤ c) with ⟨_, _, e2⟩ | ⟨_, _, _, e2⟩ | ⟨_, _, e2⟩ <;> rw [e2] <;> simp
theorem len_encs : ∀ cs : List Int, (encs cs).length ≤ 4 * cs.length
  | [] => Nat.le_refl _
  | c :: cs => by
    have h := len_encs cs
    have g := (len_enc1 c).2
    show (enc1 c ++ encs cs).length ≤ _
    rw [List.length_append, List.length_cons]
    omega
theorem encs_snoc (cs : List Int) (c : Int) : encs (cs ++ [c]) = encs cs ++ enc1 c := by
  unfold encs
  rw [List.flatMap_append]
  simp
theorem row_same {H H' : Hp} {a : Addr} {zs : List Int} (h : RowAt H a zs) (s : Same H H') : RowAt H' a zs := h.elim (fun h => .inl (s _ _ h)) fun h => .inr (s _ _ h)
/-- a for over a row, list or tuple -/
theorem r_eachRow {σ : St} {H : Hp} {n : St → Hp → Prop} {r : VK} {K : PySem.W.Frag} {k : Nat} {g : TG} {tb : TS} {a : Addr} {zs : List Int} (e : σ[k]? = some (some (.ref a))) (hR : RowAt H a zs) (Pv : Nat → St → Hp → Prop) (h0 : Pv 0 σ H) (hl : ∀ i σ H', Pv i σ H' → ∀ u, H a = some u → H' a = some u)
    (hs : ∀ (i : Nat) (z : Int) σ H', zs[i]? = some z → Pv i σ H' → g (.int z) σ H' fun σ2 H2 => tb ⟨Pv (i + 1), r, n, Pv (i + 1)⟩ σ2 H2) (hd : ∀ σ H', Pv zs.length σ H' → n σ H') :
    (iList K (tVar k) σ H fun J H1 => ∃ W : Nat → Nat → St → Hp → Prop, (∃ m, W 0 m σ H1) ∧ ∀ i m σ H, W i m σ H →
    (J.stop i H ∧ n σ H) ∨ (J.go i H ∧ ∃ N : St → Hp → Prop, (∀ σ' H', N σ' H' → ∃ m', m' < m ∧ W (i + 1) m' σ' H') ∧ ∀ x H', J.yld i H x H' → g x σ H' fun σ2 H2 => tb ⟨N, r, n, N⟩ σ2 H2)) ∨
    (iTup K (tVar k) σ H fun J H1 => ∃ W : Nat → Nat → St → Hp → Prop, (∃ m, W 0 m σ H1) ∧ ∀ i m σ H, W i m σ H →
    (J.stop i H ∧ n σ H) ∨ (J.go i H ∧ ∃ N : St → Hp → Prop, (∀ σ' H', N σ' H' → ∃ m', m' < m ∧ W (i + 1) m' σ' H') ∧ ∀ x H', J.yld i H x H' → g x σ H' fun σ2 H2 => tb ⟨N, r, n, N⟩ σ2 H2)) := by
  have st : ∀ (i : Nat) (x : V) σ H', (zs.map V.int)[i]? = some x → Pv i σ H' → g x σ H' fun σ2 H2 => tb ⟨Pv (i + 1), r, n, Pv (i + 1)⟩ σ2 H2 := fun i x σ H' e p => by
    obtain ⟨c, h1, rfl, _⟩ := ints_get e
    exact hs i c σ H' h1 p
  rcases hR with q | q
  · have hd' : ∀ σ H', Pv (zs.map V.int).length σ H' → n σ H' := by
      rw [List.length_map]
      exact hd
    exact .inl (r_itL ⟨_, e, a, rfl, ⟨_, SqL.of q⟩, r_eachL Pv h0 (fun i σ H' p => SqL.of (hl i σ H' p _ q)) st hd'⟩)
  · have hd' : ∀ σ H', Pv (zs.map V.int).length σ H' → n σ H' := by
      rw [List.length_map]
      exact hd
    exact .inr (r_itT ⟨_, e, a, rfl, ⟨_, SqT.of q⟩, r_eachT Pv h0 (fun i σ H' p => SqT.of (hl i σ H' p _ q)) st hd'⟩)

/-! ### values, and their octets in BER -/
inductive Vb where
  | null
  | truth (b : Bool)
  | number (m e : Int)
  | bytes (os : List Int)
  | text (ps : List Int)
  | ls (xs : List Vb)
  | mp (es : List (List Int × Vb))
mutual
def Vb.dat : Vb → PyData
  | .null => .tuple [.str "null"]
  | .truth b => .tuple [.str "truth", .bool b]
  | .number m e => .tuple [.str "number", .int m, .int e]
  | .bytes os => .tuple [.str "bytes", kd os]
  | .text ps => .tuple [.str "text", kd ps]
  | .ls xs => .tuple [.str "list", .tuple (bdL xs)]
  | .mp es => .tuple [.str "map", .tuple (bdM es)]
def bdL : List Vb → List PyData
  | [] => []
  | x :: xs => x.dat :: bdL xs
def bdM : List (List Int × Vb) → List PyData
  | [] => []
  | (k, v) :: es => .tuple [kd k, v.dat] :: bdM es
end
theorem bdL_map : ∀ xs : List Vb, bdL xs = xs.map Vb.dat
  | [] => rfl
  | x :: xs => congrArg (x.dat :: ·) (bdL_map xs)
theorem bdM_map : ∀ es : List (List Int × Vb), bdM es = es.map fun e => .tuple [kd e.1, e.2.dat]
  | [] => rfl
  | (k, v) :: es => congrArg (PyData.tuple [kd k, v.dat] :: ·) (bdM_map es)
theorem bdL_len (xs : List Vb) : (bdL xs).length = xs.length := by rw [bdL_map, List.length_map]
theorem bdM_len (es : List (List Int × Vb)) : (bdM es).length = es.length := by rw [bdM_map, List.length_map]
/-- points of a text -/
def Pts (ps : List Int) : Prop := ps.length ≤ 260 ∧ ∀ p ∈ ps, 0 ≤ p ∧ p < 1114112
def Vb.leaf : Vb → Prop
  | .null => True
  | .truth _ => True
  | .number m e => m.natAbs < 10 ^ 2100 ∧ e.natAbs < 10 ^ 1000
  | .bytes os => os.length ≤ 70000
  | .text ps => Pts ps
  | .ls _ => False
  | .mp _ => False
mutual
/-- fit to be written: n levels at most -/
def Vb.ok : Nat → Vb → Prop
  | 0, .ls _ => False
  | 0, .mp _ => False
  | n + 1, .ls xs => xs.length ≤ 49 ∧ bokL n xs
  | n + 1, .mp es => es.length ≤ 49 ∧ (∀ e ∈ es, Pts e.1) ∧ bokM n es
  | _, .null => True
  | _, .truth _ => True
  | _, .number m e => m.natAbs < 10 ^ 2100 ∧ e.natAbs < 10 ^ 1000
  | _, .bytes os => os.length ≤ 70000
  | _, .text ps => Pts ps
def bokL : Nat → List Vb → Prop
  | _, [] => True
  | n, x :: xs => x.ok n ∧ bokL n xs
def bokM : Nat → List (List Int × Vb) → Prop
  | _, [] => True
  | n, (_, v) :: es => v.ok n ∧ bokM n es
end
theorem ok_leaf {t : Vb} (h : t.leaf) (n : Nat) : t.ok n := by
  cases t <;> cases n <;> first | exact h | exact h.elim
theorem bokL_mem : ∀ {n : Nat} {xs : List Vb}, bokL n xs → ∀ x ∈ xs, x.ok n
  | _, [], _, x, h => absurd h (by simp)
  | _, y :: ys, h, x, hx => by
    rcases List.mem_cons.mp hx with e | e
    · rw [e]
      exact h.1
    · exact bokL_mem h.2 x e
theorem bokL_of : ∀ {n : Nat} {xs : List Vb}, (∀ x ∈ xs, x.ok n) → bokL n xs
  | _, [], _ => trivial
  | _, y :: ys, h => ⟨h _ (List.mem_cons_self ..), bokL_of fun e he => h e (List.mem_cons_of_mem _ he)⟩
theorem bokM_mem : ∀ {n : Nat} {es : List (List Int × Vb)}, bokM n es → ∀ e ∈ es, e.2.ok n
  | _, [], _, x, h => absurd h (by simp)
  | _, (k, v) :: ys, h, x, hx => by
    rcases List.mem_cons.mp hx with e | e
    · rw [e]
      exact h.1
    · exact bokM_mem h.2 x e
theorem bokM_of : ∀ {n : Nat} {es : List (List Int × Vb)}, (∀ e ∈ es, e.2.ok n) → bokM n es
  | _, [], _ => trivial
  | _, (k, v) :: ys, h => ⟨h _ (List.mem_cons_self ..), bokM_of fun e he => h e (List.mem_cons_of_mem _ he)⟩
def lenO (n : Nat) : List Int := if n < 128 then [(n : Int)] else if n < 256 then [129, (n : Int)] else if n < 65536 then [130, (n : Int) / 256, (n : Int) % 256] else [131, (n : Int) / 65536, (n : Int) / 256 % 256, (n : Int) % 256]
def elem (t : Int) (c : List Int) : List Int := [t] ++ lenO c.length ++ c
theorem lenO_len (n : Nat) : (lenO n).length ≤ 4 := by
  unfold lenO
  split
  · show 1 ≤ 4; decide
  · split
    · show 2 ≤ 4; decide
    · split
      · show 3 ≤ 4; decide
      · show 4 ≤ 4; decide
theorem elem_len (t : Int) (c : List Int) : (elem t c).length ≤ c.length + 5 := by
  have := lenO_len c.length
  unfold elem
  rw [List.length_append, List.length_append]
  show 1 + _ + _ ≤ _
  omega
def u8 (p : Int) : List Int := enc1 p
def utf8 (ps : List Int) : List Int := encs ps
theorem utf8_len (ps : List Int) : (utf8 ps).length ≤ 4 * ps.length := len_encs ps
/-- the i octets of n, the greatest first -/
def octs (n : Int) : Nat → List Int
  | 0 => []
  | i + 1 => n / 256 ^ i % 256 :: octs n i
theorem octs_len (n : Int) : ∀ i, (octs n i).length = i
  | 0 => rfl
  | i + 1 => congrArg (· + 1) (octs_len n i)
/-- i octets are enough for n -/
def fitsI (n : Int) (i : Nat) : Bool := decide (-(128 * 256 ^ (i - 1)) ≤ n) && decide (n < 128 * 256 ^ (i - 1))
theorem fits_bound {n : Int} {b : Nat} (h : n.natAbs < 128 * 256 ^ b) : fitsI n (b + 1) = true := by
  have e : ((128 * 256 ^ b : Nat) : Int) = 128 * 256 ^ b := by rw [Int.natCast_mul, Int.natCast_pow]; rfl
  unfold fitsI
  rw [Nat.add_sub_cancel, Bool.and_eq_true, decide_eq_true_eq, decide_eq_true_eq]
  omega
/-- how many octets n takes -/
def howM (n : Int) : Nat → Nat → Nat
  | 0, i => i
  | f + 1, i => if fitsI n i then i else howM n f (i + 1)
def intO (n : Int) : List Int := octs n (howM n 1300 1)
theorem octs_get (n : Int) : ∀ (k j : Nat), j < k → (octs n k)[j]? = some (n / 256 ^ (k - 1 - j) % 256)
  | 0, _, h => absurd h (Nat.not_lt_zero _)
  | k + 1, 0, _ => rfl
  | k + 1, j + 1, h => by
    have e := octs_get n k j (by omega)
    show (octs n k)[j]? = _
    rw [e]
    congr 4
    omega
theorem howM_le (n : Int) : ∀ (f i : Nat), i ≤ howM n f i ∧ howM n f i ≤ i + f
  | 0, i => ⟨Nat.le_refl _, Nat.le_refl _⟩
  | f + 1, i => by
    unfold howM
    split
    · omega
    · have := howM_le n f (i + 1)
      omega
theorem howM_fits (n : Int) : ∀ (f i b : Nat), i ≤ b → b ≤ i + f → fitsI n b = true → howM n f i ≤ b ∧ fitsI n (howM n f i) = true
  | 0, i, b, h1, h2, h => by
    have : b = i := by omega
    rw [this] at h
    exact ⟨h1, h⟩
  | f + 1, i, b, h1, h2, h => by
    unfold howM
    split
    · rename_i hf
      exact ⟨h1, hf⟩
    · rename_i hf
      have : i ≠ b := fun e => hf (by rw [e]; exact h)
      exact howM_fits n f (i + 1) b (by omega) (by omega) h
theorem howM_least (n : Int) : ∀ (f i j : Nat), i ≤ j → j < howM n f i → fitsI n j = false
  | 0, i, j, h1, h2 => by
    exact absurd h2 (by show ¬ j < i; omega)
  | f + 1, i, j, h1, h2 => by
    unfold howM at h2
    split at h2
    · omega
    · rename_i hf
      by_cases e : i = j
      · rw [← e]
        simpa using hf
      · exact howM_least n f (i + 1) j (by omega) h2
theorem intO_len {n : Int} {b : Nat} (h : n.natAbs < 128 * 256 ^ b) (hb : b ≤ 1300) : (intO n).length ≤ b + 1 := by
  unfold intO
  rw [octs_len]
  exact (howM_fits n 1300 1 (b + 1) (by omega) (by omega) (fits_bound h)).1
def sgn (m : Int) : List Nat := if m < 0 then [45] else []
def asc (x : List Nat) : List Int := x.map fun (c : Nat) => Int.ofNat c
/-- the text of a number, as points -/
def sdg (m : Int) : List Nat := sgn m ++ dg m.natAbs
def decO (m e : Int) : List Int := [3] ++ asc (sdg m ++ [46, 69] ++ sdg e)
def numO (m e : Int) : List Int := if 0 ≤ e ∧ e ≤ 64 then elem 2 (intO (m * 10 ^ e.toNat)) else elem 9 (decO m e)
def rowLe (a b : List Int) : Bool := decide (a ≤ b)
mutual
def ber : Vb → List Int
  | .null => elem 5 []
  | .truth b => elem 1 [if b then 255 else 0]
  | .number m e => numO m e
  | .bytes os => elem 4 os
  | .text ps => elem 12 (utf8 ps)
  | .ls xs => elem 48 (berL xs)
  | .mp es => elem 49 ((berM es).mergeSort rowLe).flatten
def berL : List Vb → List Int
  | [] => []
  | x :: xs => ber x ++ berL xs
def berM : List (List Int × Vb) → List (List Int)
  | [] => []
  | (k, v) :: es => elem 48 (elem 12 (utf8 k) ++ ber v) :: berM es
end
theorem berL_map : ∀ xs : List Vb, berL xs = (xs.map ber).flatten
  | [] => rfl
  | x :: xs => congrArg (ber x ++ ·) (berL_map xs)
theorem berM_map : ∀ es : List (List Int × Vb), berM es = es.map fun e => elem 48 (elem 12 (utf8 e.1) ++ ber e.2)
  | [] => rfl
  | (k, v) :: es => congrArg (elem 48 (elem 12 (utf8 k) ++ ber v) :: ·) (berM_map es)
mutual
/-- how large it is -/
def bsz : Vb → Nat
  | .ls xs => 1 + bszL xs
  | .mp es => 1 + bszM es
  | .null => 1
  | .truth _ => 1
  | .number _ _ => 1
  | .bytes os => 1 + os.length / 3000
  | .text _ => 1
def bszL : List Vb → Nat
  | [] => 0
  | x :: xs => bsz x + bszL xs
def bszM : List (List Int × Vb) → Nat
  | [] => 0
  | (_, v) :: es => 1 + bsz v + bszM es
end
theorem asc_len (x : List Nat) : (asc x).length = x.length := List.length_map ..
theorem sz_pos (t : Vb) : 1 ≤ bsz t := by cases t <;> first | exact Nat.le_refl _ | exact Nat.le_add_right _ _
/-- the octets are no more than so many for each part -/
theorem rows_len {a b : List (List Int)} (p : a.Perm b) : a.flatten.length = b.flatten.length := by
  rw [List.length_flatten, List.length_flatten]
  exact (p.map _).sum_nat
theorem num_len {m e : Int} (hm : m.natAbs < 10 ^ 2100) (he : e.natAbs < 10 ^ 1000) : (numO m e).length ≤ 3200 := by
  unfold numO
  split
  · rename_i h
    have h1 : (m * 10 ^ e.toNat).natAbs < 128 * 256 ^ 920 := by
      rw [Int.natAbs_mul, Int.natAbs_pow]
      have h3 : (10 : Int).natAbs ^ e.toNat ≤ 10 ^ 64 := Nat.pow_le_pow_right (by decide) (by omega)
      have h4 : m.natAbs * (10 : Int).natAbs ^ e.toNat ≤ 10 ^ 2100 * 10 ^ 64 := Nat.mul_le_mul (Nat.le_of_lt hm) h3
      have h5 : (10 : Nat) ^ 2100 * 10 ^ 64 < 128 * 256 ^ 920 := by decide +kernel
      omega
    have := intO_len h1 (by decide)
    have := elem_len 2 (intO (m * 10 ^ e.toNat))
    omega
  · have h1 := elem_len 9 (decO m e)
    have h2 : (decO m e).length ≤ 3110 := by
      unfold decO sdg sgn
      rw [List.length_append, asc_len, List.length_append, List.length_append, List.length_append, List.length_append]
      have a1 := dg_lenP hm
      have a2 := dg_lenP he
      clear hm he
      have b1 : (if m < 0 then [45] else ([] : List Nat)).length ≤ 1 := by split <;> simp
      have b2 : (if e < 0 then [45] else ([] : List Nat)).length ≤ 1 := by split <;> simp
      show 1 + (_ + _ + 2 + (_ + _)) ≤ 3110
      omega
    omega
mutual
theorem ber_len : ∀ (n : Nat) (t : Vb), t.ok n → (ber t).length ≤ 3200 * bsz t
  | n, .null, _ => by
    show (elem 5 []).length ≤ 3200
    decide
  | n, .truth b, _ => by
    have := elem_len 1 [if b then 255 else 0]
    show (elem 1 _).length ≤ 3200
    have e : ([if b then 255 else 0] : List Int).length = 1 := rfl
    omega
  | n, .number m e, h => by
    have h : m.natAbs < 10 ^ 2100 ∧ e.natAbs < 10 ^ 1000 := by cases n <;> exact h
    exact num_len h.1 h.2
  | n, .bytes os, h => by
    have := elem_len 4 os
    show (elem 4 os).length ≤ 3200 * (1 + os.length / 3000)
    omega
  | n, .text ps, h => by
    have h : Pts ps := by cases n <;> exact h
    have h1 := elem_len 12 (utf8 ps)
    have h2 := utf8_len ps
    have h3 := h.1
    show (elem 12 (utf8 ps)).length ≤ 3200
    omega
  | 0, .ls xs, h => h.elim
  | 0, .mp es, h => h.elim
  | n + 1, .ls xs, h => by
    have h1 := elem_len 48 (berL xs)
    have h2 := berL_len n xs h.2
    show (elem 48 (berL xs)).length ≤ 3200 * (1 + bszL xs)
    omega
  | n + 1, .mp es, h => by
    have h1 := elem_len 49 ((berM es).mergeSort rowLe).flatten
    have h2 := berM_len n es h.2.1 h.2.2
    have h3 := rows_len (List.mergeSort_perm (berM es) rowLe)
    show (elem 49 ((berM es).mergeSort rowLe).flatten).length ≤ 3200 * (1 + bszM es)
    omega
theorem berL_len : ∀ (n : Nat) (xs : List Vb), bokL n xs → (berL xs).length ≤ 3200 * bszL xs
  | _, [], _ => Nat.le_refl _
  | n, x :: xs, h => by
    have h1 := ber_len n x h.1
    have h2 := berL_len n xs h.2
    show (ber x ++ berL xs).length ≤ 3200 * (bsz x + bszL xs)
    rw [List.length_append]
    omega
theorem berM_len : ∀ (n : Nat) (es : List (List Int × Vb)), (∀ e ∈ es, Pts e.1) → bokM n es → (berM es).flatten.length ≤ 3200 * bszM es
  | _, [], _, _ => Nat.le_refl _
  | n, (k, v) :: es, hk, h => by
    have h1 := ber_len n v h.1
    have h2 := berM_len n es (fun e he => hk e (List.mem_cons_of_mem _ he)) h.2
    have h3 := (hk _ (List.mem_cons_self ..)).1
    have h4 := utf8_len k
    have h5 := elem_len 12 (utf8 k)
    have h6 := elem_len 48 (elem 12 (utf8 k) ++ ber v)
    rw [List.length_append] at h6
    show (elem 48 (elem 12 (utf8 k) ++ ber v) ++ (berM es).flatten).length ≤ 3200 * (1 + bsz v + bszM es)
    rw [List.length_append]
    have h3 : k.length ≤ 260 := h3
    omega
end

/-! ### the law's draws -/
abbrev s__law_big : Stmt := (top 45)
theorem sc__law_big : FnScope ["state", "many", "worth", "k"] ["state", "many"] (defScope s__law_big) := ⟨rfl, rfl, rfl, by decide +kernel, rfl, by decide +kernel, by decide +kernel⟩
abbrev s__law_tens : Stmt := (top 46)
theorem sc__law_tens : FnScope ["many", "power_v", "k"] ["many"] (defScope s__law_tens) := ⟨rfl, rfl, rfl, by decide +kernel, rfl, by decide +kernel, by decide +kernel⟩
abbrev s__law_normal : Stmt := (top 47)
theorem sc__law_normal : FnScope ["m", "e", "k"] ["m", "e"] (defScope s__law_normal) := ⟨rfl, rfl, rfl, by decide +kernel, rfl, by decide +kernel, by decide +kernel⟩
abbrev s__law_many : Stmt := (top 49)
theorem sc__law_many : FnScope ["state", "many"] ["state"] (defScope s__law_many) := ⟨rfl, rfl, rfl, by decide +kernel, rfl, by decide +kernel, by decide +kernel⟩
abbrev s__law_any_point : Stmt := (top 50)
theorem sc__law_any_point : FnScope ["state", "menu", "pick", "point"] ["state"] (defScope s__law_any_point) := ⟨rfl, rfl, rfl, by decide +kernel, rfl, by decide +kernel, by decide +kernel⟩
abbrev s__law_points : Stmt := (top 51)
theorem sc__law_points : FnScope ["state", "many", "k"] ["state"] (defScope s__law_points) := ⟨rfl, rfl, rfl, by decide +kernel, rfl, by decide +kernel, by decide +kernel⟩
abbrev s__law_octets : Stmt := (top 52)
theorem sc__law_octets : FnScope ["state", "many", "low", "span", "k"] ["state"] (defScope s__law_octets) := ⟨rfl, rfl, rfl, by decide +kernel, rfl, by decide +kernel, by decide +kernel⟩
abbrev s__law_parts : Stmt := (top 54)
theorem sc__law_parts : FnScope ["state"] ["state"] (defScope s__law_parts) := ⟨rfl, rfl, rfl, by decide +kernel, rfl, by decide +kernel, by decide +kernel⟩
def sp__law_big (K : Frg) : Sp := sp__law_next K
def sp__law_tens : Sp := sp1 fun a H Q _ => ∃ n : Nat, a = .int (n : Int) ∧ n ≤ 1000 ∧ Q (.int (10 ^ n)) H
def sp__law_normal : Sp := sp2 fun a b H Q _ => ∃ m e : Int, a = .int m ∧ b = .int e ∧ ∀ (p : Addr) (m' e' : Int) (H' : Hp), m'.natAbs ≤ m.natAbs → e'.natAbs ≤ e.natAbs + 3001 → H p = none → H' p = some (.tup [.int m', .int e']) → Same H H' → Q (.ref p) H'
def sp__law_many (K : Frg) : Sp := sp1 fun a H Q _ => ∃ S l, a = .ref S.a ∧ LB K S l H ∧ ∀ (r : Int) (H' : Hp), 0 ≤ r → r ≤ 258 → LB K S l H' → Keep S H H' → Q (.int r) H'
def sp__law_any_point (K : Frg) : Sp := sp1 fun a H Q _ => ∃ S l, a = .ref S.a ∧ LB K S l H ∧ ∀ (r : Int) (H' : Hp), 0 ≤ r → r < 1114112 → LB K S l H' → Keep S H H' → Q (.int r) H'
def sp__law_points (K : Frg) : Sp := sp1 fun a H Q _ => ∃ S l, a = .ref S.a ∧ LB K S l H ∧ ∀ (p : Addr) (ps : List Int) (H' : Hp), H' p = some (.tup (ps.map V.int)) → Pts ps → LB K S l H' → Keep S H H' → Q (.ref p) H'
def sp__law_octets (K : Frg) : Sp := sp1 fun a H Q _ => ∃ S l, a = .ref S.a ∧ LB K S l H ∧ ∀ (p : Addr) (os : List Int) (H' : Hp), H' p = some (.tup (os.map V.int)) → os.length ≤ 260 → LB K S l H' → Keep S H H' → Q (.ref p) H'
def sp__law_parts (K : Frg) : Sp := sp1 fun a H Q _ => ∃ S l, a = .ref S.a ∧ LB K S l H ∧ ∀ (r : Int) (H' : Hp), 0 ≤ r → r ≤ 49 → LB K S l H' → Keep S H H' → Q (.int r) H'
theorem keep_away {S : SC} {H H' : Hp} {D : Addr} {o : HO} (k : Keep S H H') (n : H D = none) : Keep S H (upd H' D o) := fun b u hb h => by
  rw [upd_ne (fun e => by rw [e, n] at h; cases h)]
  exact k b u hb h
theorem LB.away {K : Frg} {S : SC} {H H1 : Hp} {l l1 : Int} (L1 : LB K S l1 H1) {D : Addr} (hD : H1 D = none) (L : LB K S l H) (o : HO) : LB K S l (upd H D o) := by
  refine ⟨L1.ls.away hD L.ls o, ?_⟩
  obtain ⟨_, k1, f1, e1⟩ := L1
  obtain ⟨_, k, f, e⟩ := L
  exact ⟨k, f, (upd_ne (fun z => by rw [z, hD] at e1; cases e1)).trans e⟩
def menu17 : List Int := [97, 98, 34, 92, 127, 128, 233, 2047, 2048, 8364, 55295, 57344, 65535, 65536, 128512, 1114111, 48]
theorem menu17_in : ∀ v ∈ menu17, 0 ≤ v ∧ v < 1114112 := by decide
section
variable {P : Program} {w : World} {K : PySem.W.Frag} {mg : Str → Option Value} {base : Heap} {f : Addr} {fd : FuncData}
theorem ok__law_big (F : FunD K "_law_big" "_law_big" (defArgs s__law_big) (defBody s__law_big) (defScope s__law_big) [] [] (glAd "_law_big" K) fd) (m : mg "_law_big" = some (.ref (glAd "_law_big" K))) (nb : Nm K mg) (c__law_cell : Cal P w K mg base 1 "_law_cell" (sp__law_cell K) []) (c__law_next : Cal P w K mg base 1 "_law_next" (sp__law_next K) []) : Cal P w K mg base 2 "_law_big" (sp__law_big K) [] := by
  refine calD F m sc__law_big (fun _ _ _ _ _ _ us hl => match us, hl with | [_, _], _ => rfl) len2 (fun cdv A outer s H vs Q E hr h => ⟨_, (pss_cons (ps_set (i := 2) sc__law_big.nd rfl (Or.inl rfl) (pe_op op_add (pe_op op_mul (pe_callB call_abs (by rfl) nb.abs (by decide +kernel) (pa_cons (pe_c c__law_cell hr (by decide) rfl (pa_cons (pe_ix ix_list (pv 0) pe_int (fun _ _ => rfl)) (pa_cons (pe_op op_add pe_int (pe_c c__law_next hr (by decide) rfl (pa_cons (pv 0) (pa_cons pe_int pa_nil)))) pa_nil))) pa_nil)) pe_int) (pe_c c__law_next hr (by decide) rfl (pa_cons (pv 0) (pa_cons pe_int pa_nil)))))
    (pss_cons (ps_for PassesOwn.never rfl (pi_range1 rfl nb.range (pa_cons pe_int pa_nil)) (pg_name (i := 3) sc__law_big.nd rfl (Or.inl rfl))
    (pss_one (ps_set (i := 2) sc__law_big.nd rfl (Or.inl rfl) (pe_op op_add (pe_op op_mul (pv 2) pe_int) (pe_c c__law_next hr (by decide) rfl (pa_cons (pv 0) (pa_cons pe_int pa_nil)))))))
    (pss_one (ps_ret (pe_op op_mod (pe_callTy call_int1 (by rfl) nb.int (by decide +kernel) (pa_cons (pv 2) pa_nil)) (pv 1)))))), ?_⟩)
  obtain ⟨_, _, rfl, S, l, mm, rfl, rfl, h0, L, h⟩ := h
  obtain ⟨k, f5, e⟩ := L.at_
  walk_at "rd"
  refine r_ixL (SqL.of e) rfl ?_
  walk_at "rd"
  refine b_next L (by decide) fun r1 H1 a1 b1 L1 k1 => ?_
  walk_at "rd"
  refine ⟨_, _, rfl, S.sl, S.ns, _, rfl, rfl, L1.ls.scr, by omega, fun z => ?_⟩
  walk_at "rd"
  refine b_next L1 (by decide) fun r2 H2 a2 b2 L2 k2 => ?_
  walk_at "rd"
  refine r_turns (by decide) (by decide) (fun i σ H' => LB K S l H' ∧ Keep S H H' ∧ ∃ (x : Int) (y : Option V), σ = [some (.ref S.a), some (.int mm), some (.int x), y]) ⟨L2, k1.trans k2, _, _, rfl⟩ ?_ ?_
  · rintro i σ H3 hi ⟨L3, k3, x, y, rfl⟩
    walk_at "rd"
    refine b_next L3 (by decide) fun r4 H4 a4 b4 L4 k4 => ?_
    walk_at "rd"
    exact ⟨L4, k3.trans k4, _, _, rfl⟩
  · rintro σ H3 ⟨L3, k3, x, y, rfl⟩
    walk_at "rd"
    refine r_I h0 ?_
    exact h _ _ (Int.emod_nonneg _ (by omega)) (Int.emod_lt_of_pos _ h0) L3 k3
theorem ok__law_tens (F : FunD K "_law_tens" "_law_tens" (defArgs s__law_tens) (defBody s__law_tens) (defScope s__law_tens) [] [] (glAd "_law_tens" K) fd) (m : mg "_law_tens" = some (.ref (glAd "_law_tens" K))) (nb : Nm K mg) : Cal P w K mg base 1 "_law_tens" sp__law_tens [] := by
  refine calD F m sc__law_tens (fun _ _ _ _ _ _ us hl => match us, hl with | [_], _ => rfl) len1 (fun cdv A outer s H vs Q E hr h => ⟨_, (pss_cons (ps_set (i := 1) sc__law_tens.nd rfl (Or.inl rfl) pe_int)
    (pss_cons (ps_for PassesOwn.never rfl (pi_range1 rfl nb.range (pa_cons (pv 0) pa_nil)) (pg_name (i := 2) sc__law_tens.nd rfl (Or.inl rfl))
    (pss_one (ps_set (i := 1) sc__law_tens.nd rfl (Or.inl rfl) (pe_op op_mul (pv 1) pe_int))))
    (pss_one (ps_ret (pv 1))))), ?_⟩)
  obtain ⟨_, rfl, n, rfl, hn, h⟩ := h
  walk_at "rd"
  refine r_turns (by omega) (by omega) (fun i σ H' => H = H' ∧ ∃ y, σ = [some (.int (n : Int)), some (.int (10 ^ i)), y]) ⟨rfl, none, rfl⟩ ?_ ?_
  · rintro i σ _ hi ⟨rfl, y, rfl⟩
    walk_at "rd"
    exact ⟨rfl, _, rfl⟩
  · rintro σ _ ⟨rfl, y, rfl⟩
    walk_at "rd"
    exact h
theorem ok__law_normal (F : FunD K "_law_normal" "_law_normal" (defArgs s__law_normal) (defBody s__law_normal) (defScope s__law_normal) [] [] (glAd "_law_normal" K) fd) (m : mg "_law_normal" = some (.ref (glAd "_law_normal" K))) (nb : Nm K mg) : Cal P w K mg base 1 "_law_normal" sp__law_normal [] := by
  refine calD F m sc__law_normal (fun _ _ _ _ _ _ us hl => match us, hl with | [_, _], _ => rfl) len2 (fun cdv A outer s H vs Q E hr h => ⟨_, (pss_cons (ps_if (pt_cmpR op_eq (pv 0) pe_int (nomark _))
    (pss_one (ps_ret (pe_tup (pa_cons pe_int (pa_cons pe_int pa_nil)))))
    pss_nil)
    (pss_cons (ps_for PassesOwn.never rfl (pi_range1 rfl nb.range (pa_cons pe_int pa_nil)) (pg_name (i := 2) sc__law_normal.nd rfl (Or.inl rfl))
    (pss_cons (ps_if (pt_cmpR op_ne (pe_op op_mod (pe_callTy call_int1 (by rfl) nb.int (by decide +kernel) (pa_cons (pv 0) pa_nil)) pe_int) pe_int (nomark _))
    (pss_one (ps_ret (pe_tup (pa_cons (pv 0) (pa_cons (pv 1) pa_nil)))))
    pss_nil)
    (pss_cons (ps_set (i := 0) sc__law_normal.nd rfl (Or.inl rfl) (pe_op op_fdiv (pv 0) pe_int))
    (pss_one (ps_set (i := 1) sc__law_normal.nd rfl (Or.inl rfl) (pe_op op_add (pv 1) pe_int))))))
    (pss_one (ps_ret (pe_tup (pa_cons (pv 0) (pa_cons (pv 1) pa_nil))))))), ?_⟩)
  obtain ⟨_, _, rfl, m, e, rfl, rfl, h⟩ := h
  walk_at "rd"
  refine r_ite (fun c => ?_) (fun c => ?_)
  · walk_at "rd"
    exact ⟨by show 2 ≤ sizeLine; decide, fun p hp => h p _ _ _ (Nat.zero_le _) (Nat.zero_le _) hp upd_same (same_upd hp _)⟩
  walk_at "rd"
  refine r_turns (by decide) (by decide) (fun i σ H' => H = H' ∧ ∃ (m' e' : Int) (y : Option V), m'.natAbs ≤ m.natAbs ∧ e'.natAbs ≤ e.natAbs + i ∧ i ≤ 3001 ∧ σ = [some (.int m'), some (.int e'), y]) ⟨rfl, m, e, none, Nat.le_refl _, Nat.le_refl _, Nat.zero_le _, rfl⟩ ?_ ?_
  · rintro i σ _ hi ⟨rfl, m', e', y, hm, he, hi', rfl⟩
    walk_at "rd"
    refine r_iten (fun c => ?_) (fun c => ?_)
    · walk_at "rd"
      exact ⟨by show 2 ≤ sizeLine; decide, fun p hp => h p _ _ _ hm (by omega) hp upd_same (same_upd hp _)⟩
    · walk_at "rd"
      exact ⟨rfl, _, _, _, by omega, by omega, by omega, rfl⟩
  · rintro σ _ ⟨rfl, m', e', y, hm, he, hi', rfl⟩
    walk_at "rd"
    exact ⟨by show 2 ≤ sizeLine; decide, fun p hp => h p _ _ _ hm (by omega) hp upd_same (same_upd hp _)⟩
theorem ok__law_many (F : FunD K "_law_many" "_law_many" (defArgs s__law_many) (defBody s__law_many) (defScope s__law_many) [] [] (glAd "_law_many" K) fd) (m : mg "_law_many" = some (.ref (glAd "_law_many" K))) (nb : Nm K mg) (c__law_next : Cal P w K mg base 1 "_law_next" (sp__law_next K) []) : Cal P w K mg base 2 "_law_many" (sp__law_many K) [] := by
  refine calD F m sc__law_many (fun _ _ _ _ _ _ us hl => match us, hl with | [_], _ => rfl) len1 (fun cdv A outer s H vs Q E hr h => ⟨_, (pss_cons (ps_set (i := 1) sc__law_many.nd rfl (Or.inl rfl) (pe_c c__law_next hr (by decide) rfl (pa_cons (pv 0) (pa_cons pe_int pa_nil))))
    (pss_cons (ps_if (PW.pt (pw_and (pt_cmpR op_eq (pe_c c__law_next hr (by decide) rfl (pa_cons (pv 0) (pa_cons pe_int pa_nil))) pe_int (nomark _)) (pw_and1 (pt_cmpR op_gt (pe_ix ix_list (pv 0) pe_int (fun _ _ => rfl)) pe_int (nomark _)))))
    (pss_cons (ps_asg (pe_op op_sub (pe_ix ix_list (pv 0) pe_int (fun _ _ => rfl)) pe_int) (pg_sub (pv 0) pe_int set_list))
    (pss_one (ps_ret (pe_ix ix_list (pe_lst (pa_cons (pe_op op_add pe_int (pe_c c__law_next hr (by decide) rfl (pa_cons (pv 0) (pa_cons pe_int pa_nil)))) (pa_cons (pe_op op_add pe_int (pe_c c__law_next hr (by decide) rfl (pa_cons (pv 0) (pa_cons pe_int pa_nil)))) (pa_cons (pe_op op_add pe_int (pe_c c__law_next hr (by decide) rfl (pa_cons (pv 0) (pa_cons pe_int pa_nil)))) pa_nil)))) (pe_c c__law_next hr (by decide) rfl (pa_cons (pv 0) (pa_cons pe_int pa_nil))) (fun _ _ => rfl)))))
    pss_nil)
    (pss_one (ps_ret (pv 1))))), ?_⟩)
  obtain ⟨_, rfl, S, l, rfl, L, h⟩ := h
  walk_at "rd"
  refine b_next L (by decide) fun m0 H2 a2 b2 L2 k2 => ?_
  walk_at "rd"
  refine b_next L2 (by decide) fun r3 H3 a3 b3 L3 k3 => ?_
  walk_at "rd"
  refine r_ite (fun c => ?_) (fun c => ?_)
  · obtain ⟨kk, f5, e⟩ := L3.at_
    walk_at "rd"
    refine r_ixL (SqL.of e) rfl ?_
    walk_at "rd"
    refine r_ite (fun c2 => ?_) (fun c2 => ?_)
    · walk_at "rd"
      refine r_ixL (SqL.of e) rfl ?_
      walk_at "rd"
      refine r_setL e rfl ?_
      walk_at "rd"
      have L4 := L3.put kk l (f5 - 1)
      have k4 := (k2.trans k3).trans (Keep.put (H := H3) (.lst [.ref S.nl, .int kk, .int l, .ref S.sl, .int (f5 - 1)]))
      refine b_next L4 (by decide) fun r5 H5 a5 b5 L5 k5 => ?_
      walk_at "rd"
      refine b_next L5 (by decide) fun r6 H6 a6 b6 L6 k6 => ?_
      walk_at "rd"
      refine b_next L6 (by decide) fun r7 H7 a7 b7 L7 k7 => ?_
      walk_at "rd"
      refine b_pickI 0 258 L7 rfl (by show 3 ≤ sizeLine; decide) (by decide) rfl (bl_cons ⟨_, rfl, by omega, by omega⟩ (bl_cons ⟨_, rfl, by omega, by omega⟩ (bl_cons ⟨_, rfl, by omega, by omega⟩ bl_nil))) fun z H8 a8 b8 _ L8 k8 => ?_
      exact h _ _ a8 b8 L8 (((k4.trans k5).trans k6).trans (k7.trans k8))
    · walk_at "rd"
      exact h _ _ a2 (by omega) L3 (k2.trans k3)
  · walk_at "rd"
    exact h _ _ a2 (by omega) L3 (k2.trans k3)
theorem ok__law_any_point (F : FunD K "_law_any_point" "_law_any_point" (defArgs s__law_any_point) (defBody s__law_any_point) (defScope s__law_any_point) [] [] (glAd "_law_any_point" K) fd) (m : mg "_law_any_point" = some (.ref (glAd "_law_any_point" K))) (nb : Nm K mg) (c__law_next : Cal P w K mg base 1 "_law_next" (sp__law_next K) []) : Cal P w K mg base 2 "_law_any_point" (sp__law_any_point K) [] := by
  refine calD F m sc__law_any_point (fun _ _ _ _ _ _ us hl => match us, hl with | [_], _ => rfl) len1 (fun cdv A outer s H vs Q E hr h => ⟨_, (pss_cons (ps_set (i := 1) sc__law_any_point.nd rfl (Or.inl rfl) (pe_lst (pa_cons pe_int (pa_cons pe_int (pa_cons pe_int (pa_cons pe_int (pa_cons pe_int (pa_cons pe_int (pa_cons pe_int (pa_cons pe_int (pa_cons pe_int (pa_cons pe_int (pa_cons pe_int (pa_cons pe_int (pa_cons pe_int (pa_cons pe_int (pa_cons pe_int (pa_cons pe_int (pa_cons pe_int pa_nil)))))))))))))))))))
    (pss_cons (ps_set (i := 2) sc__law_any_point.nd rfl (Or.inl rfl) (pe_c c__law_next hr (by decide) rfl (pa_cons (pv 0) (pa_cons pe_int pa_nil))))
    (pss_cons (ps_if (pt_cmpR op_eq (pv 2) pe_int (nomark _))
    (pss_one (ps_ret (pe_ix ix_list (pv 1) (pe_c c__law_next hr (by decide) rfl (pa_cons (pv 0) (pa_cons pe_int pa_nil))) (fun _ _ => rfl))))
    pss_nil)
    (pss_cons (ps_if (pt_cmpR op_eq (pv 2) pe_int (nomark _))
    (pss_one (ps_ret (pe_c c__law_next hr (by decide) rfl (pa_cons (pv 0) (pa_cons pe_int pa_nil)))))
    pss_nil)
    (pss_cons (ps_if (pt_cmpR op_eq (pv 2) pe_int (nomark _))
    (pss_cons (ps_set (i := 3) sc__law_any_point.nd rfl (Or.inl rfl) (pe_op op_add (pe_op op_mul (pe_c c__law_next hr (by decide) rfl (pa_cons (pv 0) (pa_cons pe_int pa_nil))) pe_int) (pe_c c__law_next hr (by decide) rfl (pa_cons (pv 0) (pa_cons pe_int pa_nil)))))
    (pss_one (ps_ret (pe_op op_add (pv 3) (pe_op op_mul pe_int (pe_callTy call_int1 (by rfl) nb.int (by decide +kernel) (pa_cons (pe_cmpR op_gt (pv 3) pe_int (nomark _)) pa_nil)))))))
    pss_nil)
    (pss_one (ps_ret (pe_op op_add pe_int (pe_c c__law_next hr (by decide) rfl (pa_cons (pv 0) (pa_cons pe_int pa_nil))))))))))), ?_⟩)
  obtain ⟨_, rfl, S, l, rfl, L, h⟩ := h
  walk_at "rd"
  refine ⟨by show 17 ≤ sizeLine; decide, fun pm nm => ?_⟩
  obtain ⟨H1, e, L1, s1, g1, ne1⟩ := b_new (o := .lst (menu17.map V.int)) L nm
  rw [show (HO.lst [V.int 97, V.int 98, V.int 34, V.int 92, V.int 127, V.int 128, V.int 233, V.int 2047, V.int 2048, V.int 8364, V.int 55295, V.int 57344, V.int 65535, V.int 65536, V.int 128512, V.int 1114111, V.int 48]) = .lst (menu17.map V.int) from rfl, e]
  clear e
  walk_at "rd"
  refine b_next L1 (by decide) fun r2 H2 a2 b2 L2 k2 => ?_
  have g2 := k2 _ _ ne1 g1
  have k2 := (Keep.of (S := S) s1).trans k2
  walk_at "rd"
  refine r_ite (fun c => ?_) (fun c => ?_)
  · walk_at "rd"
    refine b_next L2 (by decide) fun r3 H3 a3 b3 L3 k3 => ?_
    obtain ⟨v, hv, ev⟩ := atI_ints (ns := menu17) (k := r3) a3 b3
    have hv2 : 0 ≤ v ∧ v < 1114112 := menu17_in v hv
    refine r_ixL (SqL.of (k3 _ _ ne1 g2)) ev ?_
    exact h _ _ hv2.1 hv2.2 L3 (k2.trans k3)
  walk_at "rd"
  refine r_ite (fun c => ?_) (fun c => ?_)
  · walk_at "rd"
    refine b_next L2 (by decide) fun r3 H3 a3 b3 L3 k3 => ?_
    exact h _ _ a3 (by omega) L3 (k2.trans k3)
  walk_at "rd"
  refine r_ite (fun c => ?_) (fun c => ?_)
  · walk_at "rd"
    refine b_next L2 (by decide) fun r3 H3 a3 b3 L3 k3 => ?_
    walk_at "rd"
    refine b_next L3 (by decide) fun r4 H4 a4 b4 L4 k4 => ?_
    walk_at "rd"
    refine .inr ⟨_, rfl, ?_⟩
    walk_at "rd"
    refine h _ _ ?_ ?_ L4 ((k2.trans k3).trans k4)
    · split <;> omega
    · split <;> omega
  · walk_at "rd"
    refine b_next L2 (by decide) fun r3 H3 a3 b3 L3 k3 => ?_
    walk_at "rd"
    exact h _ _ (by omega) (by omega) L3 (k2.trans k3)
theorem ok__law_points (F : FunD K "_law_points" "_law_points" (defArgs s__law_points) (defBody s__law_points) (defScope s__law_points) [] [] (glAd "_law_points" K) fd) (m : mg "_law_points" = some (.ref (glAd "_law_points" K))) (nb : Nm K mg) (c__law_many : Cal P w K mg base 2 "_law_many" (sp__law_many K) []) (c__law_any_point : Cal P w K mg base 2 "_law_any_point" (sp__law_any_point K) []) : Cal P w K mg base 3 "_law_points" (sp__law_points K) [] := by
  refine calD F m sc__law_points (fun _ _ _ _ _ _ us hl => match us, hl with | [_], _ => rfl) len1 (fun cdv A outer s H vs Q E hr h => ⟨_, (pss_cons (ps_set (i := 1) sc__law_points.nd rfl (Or.inl rfl) (pe_c c__law_many hr (by decide) rfl (pa_cons (pv 0) pa_nil)))
    (pss_one (ps_ret (pe_callTy call_tuple_of (by rfl) nb.tuple (by decide +kernel) (pa_cons (pe_lc (own := [("k", 2)]) (g := gName 2) (tt := tYes) rfl sc__law_points.nd (pi_range1 rfl nb.range (pa_cons (pv 1) pa_nil)) (blkOk_by (N := ["state", "many", "k"]) (sc := defScope s__law_points) (by decide +kernel)) (fun _ _ _ _ _ => pg_name (i := 2) sc__law_points.nd rfl (Or.inl rfl)) (fun _ _ _ _ _ => pts_nil) (fun _ _ _ _ _ => (pe_c c__law_any_point hr (by decide) rfl (pa_cons (pv 0) pa_nil)))) pa_nil))))), ?_⟩)
  obtain ⟨_, rfl, S, l, rfl, L, h⟩ := h
  walk_at "rd"
  refine ⟨_, rfl, S, l, rfl, L, fun m H2 a2 b2 L2 k2 => ?_⟩
  walk_at "rd"
  refine ⟨by omega, by omega, fun D nD => ?_⟩
  have DS := L2.ne_free nD
  have nD0 : H D = none := k2.free L2.ls nD
  refine lc_range (fun i H' => LB K S l H' ∧ Keep S H H' ∧ ∃ cs : List Int, cs.length = i ∧ (∀ p ∈ cs, 0 ≤ p ∧ p < 1114112) ∧ H' D = some (.lst (cs.map V.int))) ⟨L2.new nD _, k2.trans (Keep.of (same_upd nD _)), [], rfl, (fun _ h => by cases h), upd_same⟩ ?_ ?_
  · rintro i H6 hi ⟨L6, k6, cs, e1, e3, e2⟩
    walk_at "rd"
    refine ⟨rfl, ?_⟩
    walk_at "rd"
    refine ⟨_, rfl, S, l, rfl, L6, fun c H7 a7 b7 L7 k7 => ?_⟩
    walk_at "rd"
    exact ⟨_, k7 _ _ DS e2, small1000 (by rw [List.length_map]; omega), L2.away nD L7 _, keep_away (k6.trans k7) nD0, cs ++ [c], by rw [List.length_append, e1]; rfl, fun p hp => by
      rcases List.mem_append.mp hp with q | q
      · exact e3 p q
      · rw [List.mem_singleton.mp q]; exact ⟨a7, b7⟩, by rw [upd_same, map_snoc]⟩
  rintro H6 ⟨L6, k6, cs, e1, e3, e2⟩
  walk_at "rd"
  refine ⟨D, _, rfl, .inl ⟨SqL.of e2, fun t nt => ?_⟩⟩
  exact h t cs _ upd_same ⟨by omega, e3⟩ (L6.new nt _) (k6.trans (Keep.of (same_upd nt _)))
theorem ok__law_octets (F : FunD K "_law_octets" "_law_octets" (defArgs s__law_octets) (defBody s__law_octets) (defScope s__law_octets) [] [] (glAd "_law_octets" K) fd) (m : mg "_law_octets" = some (.ref (glAd "_law_octets" K))) (nb : Nm K mg) (c__law_next : Cal P w K mg base 1 "_law_next" (sp__law_next K) []) (c__law_many : Cal P w K mg base 2 "_law_many" (sp__law_many K) []) : Cal P w K mg base 3 "_law_octets" (sp__law_octets K) [] := by
  refine calD F m sc__law_octets (fun _ _ _ _ _ _ us hl => match us, hl with | [_], _ => rfl) len1 (fun cdv A outer s H vs Q E hr h => ⟨_, (pss_cons (ps_set (i := 1) sc__law_octets.nd rfl (Or.inl rfl) (pe_c c__law_many hr (by decide) rfl (pa_cons (pv 0) pa_nil)))
    (pss_cons (ps_asg (pe_ix ix_list (pe_lst (pa_cons (pe_tup (pa_cons pe_int (pa_cons pe_int pa_nil))) (pa_cons (pe_tup (pa_cons pe_int (pa_cons pe_int pa_nil))) (pa_cons (pe_tup (pa_cons pe_int (pa_cons pe_int pa_nil))) pa_nil)))) (pe_c c__law_next hr (by decide) rfl (pa_cons (pv 0) (pa_cons pe_int pa_nil))) (fun _ _ => rfl)) (pg_tup rfl (pgs_cons (pg_name (i := 2) sc__law_octets.nd rfl (Or.inr rfl)) (pgs_cons (pg_name (i := 3) sc__law_octets.nd rfl (Or.inr rfl)) pgs_nil))))
    (pss_one (ps_ret (pe_callTy call_tuple_of (by rfl) nb.tuple (by decide +kernel) (pa_cons (pe_lc (own := [("k", 4)]) (g := gName 4) (tt := tYes) rfl sc__law_octets.nd (pi_range1 rfl nb.range (pa_cons (pv 1) pa_nil)) (blkOk_by (N := ["state", "many", "low", "span", "k"]) (sc := defScope s__law_octets) (by decide +kernel)) (fun _ _ _ _ _ => pg_name (i := 4) sc__law_octets.nd rfl (Or.inl rfl)) (fun _ _ _ _ _ => pts_nil) (fun _ _ _ _ _ => (pe_op op_add (pv 2) (pe_c c__law_next hr (by decide) rfl (pa_cons (pv 0) (pa_cons (pv 3) pa_nil)))))) pa_nil)))))), ?_⟩)
  obtain ⟨_, rfl, S, l, rfl, L, h⟩ := h
  walk_at "rd"
  refine ⟨_, rfl, S, l, rfl, L, fun m H3 hm0 hm1 L3 k3 => ?_⟩
  walk_at "rd"
  refine ⟨by show 2 ≤ sizeLine; decide, fun t1 nt1 => ?_⟩
  have s1 := same_upd nt1 (.tup [.int 0, .int 256])
  walk_at "rd"
  refine ⟨by show 2 ≤ sizeLine; decide, fun t2 nt2 => ?_⟩
  have s2 := same_upd nt2 (.tup [.int 32, .int 95])
  walk_at "rd"
  refine ⟨by show 2 ≤ sizeLine; decide, fun t3 nt3 => ?_⟩
  have s3 := same_upd nt3 (.tup [.int 97, .int 26])
  have g1 := s3 _ _ (s2 _ _ (upd_same : upd H3 t1 (.tup [.int 0, .int 256]) t1 = some (.tup [.int 0, .int 256])))
  have g2 := s3 _ _ (upd_same : upd (upd H3 t1 (.tup [.int 0, .int 256])) t2 (.tup [.int 32, .int 95]) t2 = some (.tup [.int 32, .int 95]))
  have g3 : upd (upd (upd H3 t1 (.tup [.int 0, .int 256])) t2 (.tup [.int 32, .int 95])) t3 (.tup [.int 97, .int 26]) t3 = some (.tup [.int 97, .int 26]) := upd_same
  have s13 := (s1.trans s2).trans s3
  have L4 := L3.same s13
  have k4 := k3.trans (Keep.of s13)
  generalize upd (upd (upd H3 t1 (.tup [.int 0, .int 256])) t2 (.tup [.int 32, .int 95])) t3 (.tup [.int 97, .int 26]) = H4 at g1 g2 g3 L4 k4 ⊢
  clear s1 s2 s3 s13 nt1 nt2 nt3 L3 k3
  walk_at "rd"
  refine b_pick (xs := [.ref t1, .ref t2, .ref t3]) L4 rfl (by show 3 ≤ sizeLine; decide) (by decide) rfl fun v H5 hv L5 k5 => ?_
  have tk := keep_tk L4.ls k5
  obtain ⟨t, lo, sp, rfl, ht, hsp⟩ : ∃ t lo sp, v = V.ref t ∧ H5 t = some (.tup [.int lo, .int sp]) ∧ 0 < sp := by
    rcases List.mem_cons.mp hv with e | e
    · exact ⟨t1, 0, 256, e, tk _ _ g1, by decide⟩
    rcases List.mem_cons.mp e with e | e
    · exact ⟨t2, 32, 95, e, tk _ _ g2, by decide⟩
    · exact ⟨t3, 97, 26, by simpa using e, tk _ _ g3, by decide⟩
  have k5 := k4.trans k5
  walk_at "rd"
  refine r_gtup (SqT.of ht) rfl ?_
  walk_at "rd"
  refine ⟨by omega, by omega, fun D nD => ?_⟩
  have DS := L5.ne_free nD
  have nD0 : H D = none := k5.free L5.ls nD
  refine lc_range (fun i H' => LB K S l H' ∧ Keep S H H' ∧ ∃ cs : List Int, cs.length = i ∧ H' D = some (.lst (cs.map V.int))) ⟨L5.new nD _, k5.trans (Keep.of (same_upd nD _)), [], rfl, upd_same⟩ ?_ ?_
  · rintro i H6 hi ⟨L6, k6, cs, e1, e2⟩
    walk_at "rd"
    refine ⟨rfl, ?_⟩
    walk_at "rd"
    refine b_next L6 hsp fun c H7 a7 b7 L7 k7 => ?_
    walk_at "rd"
    exact ⟨_, k7 _ _ DS e2, small1000 (by rw [List.length_map]; omega), L5.away nD L7 _, keep_away (k6.trans k7) nD0, cs ++ [lo + c], by rw [List.length_append, e1]; rfl, by rw [upd_same, map_snoc]⟩
  rintro H6 ⟨L6, k6, cs, e1, e2⟩
  walk_at "rd"
  refine ⟨D, _, rfl, .inl ⟨SqL.of e2, fun t nt => ?_⟩⟩
  exact h t cs _ upd_same (by omega) (L6.new nt _) (k6.trans (Keep.of (same_upd nt _)))
theorem ok__law_parts (F : FunD K "_law_parts" "_law_parts" (defArgs s__law_parts) (defBody s__law_parts) (defScope s__law_parts) [] [] (glAd "_law_parts" K) fd) (m : mg "_law_parts" = some (.ref (glAd "_law_parts" K))) (nb : Nm K mg) (c__law_next : Cal P w K mg base 1 "_law_next" (sp__law_next K) []) : Cal P w K mg base 2 "_law_parts" (sp__law_parts K) [] := by
  refine calD F m sc__law_parts (fun _ _ _ _ _ _ us hl => match us, hl with | [_], _ => rfl) len1 (fun cdv A outer s H vs Q E hr h => ⟨_, (pss_cons (ps_if (PW.pt (pw_and (pt_cmpR op_gt (pe_ix ix_list (pv 0) pe_int (fun _ _ => rfl)) pe_int (nomark _)) (pw_and1 (pt_cmpR op_eq (pe_c c__law_next hr (by decide) rfl (pa_cons (pv 0) (pa_cons pe_int pa_nil))) pe_int (nomark _)))))
    (pss_cons (ps_asg (pe_op op_sub (pe_ix ix_list (pv 0) pe_int (fun _ _ => rfl)) pe_int) (pg_sub (pv 0) pe_int set_list))
    (pss_one (ps_ret (pe_op op_add pe_int (pe_c c__law_next hr (by decide) rfl (pa_cons (pv 0) (pa_cons pe_int pa_nil)))))))
    pss_nil)
    (pss_one (ps_ret (pe_c c__law_next hr (by decide) rfl (pa_cons (pv 0) (pa_cons pe_int pa_nil)))))), ?_⟩)
  obtain ⟨_, rfl, S, l, rfl, L, h⟩ := h
  obtain ⟨kk, f5, e⟩ := L.at_
  walk_at "rd"
  refine r_ixL (SqL.of e) rfl ?_
  walk_at "rd"
  refine r_ite (fun c => ?_) (fun c => ?_)
  · walk_at "rd"
    refine b_next L (by decide) fun r3 H3 a3 b3 L3 k3 => ?_
    walk_at "rd"
    refine r_ite (fun c2 => ?_) (fun c2 => ?_)
    · obtain ⟨kk, f5, e⟩ := L3.at_
      walk_at "rd"
      refine r_ixL (SqL.of e) rfl ?_
      walk_at "rd"
      refine r_setL e rfl ?_
      walk_at "rd"
      have L4 := L3.put kk l (f5 - 1)
      have k4 := k3.trans (Keep.put (H := H3) (.lst [.ref S.nl, .int kk, .int l, .ref S.sl, .int (f5 - 1)]))
      refine b_next L4 (by decide) fun r5 H5 a5 b5 L5 k5 => ?_
      walk_at "rd"
      exact h _ _ (by omega) (by omega) L5 (k4.trans k5)
    · walk_at "rd"
      refine b_next L3 (by decide) fun r5 H5 a5 b5 L5 k5 => ?_
      exact h _ _ a5 (by omega) L5 (k3.trans k5)
  · walk_at "rd"
    refine b_next L (by decide) fun r5 H5 a5 b5 L5 k5 => ?_
    exact h _ _ a5 (by omega) L5 k5
end

abbrev s__law_number : Stmt := (top 48)
theorem sc__law_number : FnScope ["state", "pick", "m", "e", "edges", "k"] ["state"] (defScope s__law_number) := ⟨rfl, rfl, rfl, by decide +kernel, rfl, by decide +kernel, by decide +kernel⟩
abbrev s__law_leaf : Stmt := (top 53)
theorem sc__law_leaf : FnScope ["state", "kind"] ["state"] (defScope s__law_leaf) := ⟨rfl, rfl, rfl, by decide +kernel, rfl, by decide +kernel, by decide +kernel⟩
def sp__law_number (K : Frg) : Sp := sp1 fun a H Q _ => ∃ S l, a = .ref S.a ∧ LB K S l H ∧ ∀ (v : V) (m e : Int) (H' : Hp), m.natAbs < 10 ^ 2100 → e.natAbs < 10 ^ 1000 → Tp H' v (Vb.number m e).dat → LB K S l H' → Keep S H H' → Q v H'
def sp__law_leaf (K : Frg) : Sp := sp1 fun a H Q _ => ∃ S l, a = .ref S.a ∧ LB K S l H ∧ ∀ (v : V) (t : Vb) (H' : Hp), t.leaf → bsz t ≤ 1 → Tp H' v t.dat → LB K S l H' → Keep S H H' → Q v H'
def edges27 : List Int := [127, 128, 255, 256, 32767, 32768, 65535, 8388608, 2 ^ 31, 2 ^ 32, 2 ^ 63, 2 ^ 64, 10 ^ 30]
theorem edges27_in : ∀ v ∈ edges27, 0 ≤ v ∧ v ≤ 10 ^ 30 := by decide +kernel
theorem turn10b {x r : Int} {i : Nat} (h : x.natAbs < 10 ^ (60 + 41 * i)) (h0 : 0 ≤ r) (h1 : r < 1000) : (x * (10 ^ 40 + 7) + r).natAbs < 10 ^ (60 + 41 * (i + 1)) := by
  have e : 60 + 41 * (i + 1) = (60 + 41 * i) + 41 := by omega
  rw [e, Nat.pow_add]
  have e41 : (10 : Nat) ^ 41 = 100000000000000000000000000000000000000000 := by decide
  have e40 : (10 : Int) ^ 40 + 7 = 10000000000000000000000000000000000000007 := by decide
  rw [e41, e40]
  omega
theorem turn10e {x : Int} {i : Nat} (h : x.natAbs < 10 ^ (21 + 51 * i)) : (x * (10 ^ 50 + 3)).natAbs < 10 ^ (21 + 51 * (i + 1)) := by
  have e : 21 + 51 * (i + 1) = (21 + 51 * i) + 51 := by omega
  rw [e, Nat.pow_add]
  have e51 : (10 : Nat) ^ 51 = 1000000000000000000000000000000000000000000000000000 := by decide
  have e50 : (10 : Int) ^ 50 + 3 = 100000000000000000000000000000000000000000000000003 := by decide
  rw [e51, e50]
  omega
/-- what the branches leave: a mantissa and an exponent within bounds -/
def Mid27 (K : Frg) (S : SC) (l : Int) (H : Hp) (pick : Int) (σ : St) (H' : Hp) : Prop := LB K S l H' ∧ Keep S H H' ∧ ∃ (m e : Int) (y4 y5 : Option V), m.natAbs < 10 ^ 2000 ∧ e.natAbs < 10 ^ 950 ∧ σ = [some (.ref S.a), some (.int pick), some (.int m), some (.int e), y4, y5]
theorem p2000 {m : Int} (h : m.natAbs ≤ 10 ^ 40) : m.natAbs < 10 ^ 2000 := Nat.lt_of_le_of_lt h (Nat.pow_lt_pow_right (by decide) (by decide))
theorem p950 {m : Int} (h : m.natAbs ≤ 10 ^ 20) : m.natAbs < 10 ^ 950 := Nat.lt_of_le_of_lt h (Nat.pow_lt_pow_right (by decide) (by decide))
section
variable {P : Program} {w : World} {K : PySem.W.Frag} {mg : Str → Option Value} {base : Heap} {f : Addr} {fd : FuncData}
theorem ok__law_number (F : FunD K "_law_number" "_law_number" (defArgs s__law_number) (defBody s__law_number) (defScope s__law_number) [] [] (glAd "_law_number" K) fd) (m : mg "_law_number" = some (.ref (glAd "_law_number" K))) (nb : Nm K mg) (c__law_next : Cal P w K mg base 1 "_law_next" (sp__law_next K) []) (c__law_big : Cal P w K mg base 2 "_law_big" (sp__law_big K) []) (c__law_tens : Cal P w K mg base 1 "_law_tens" sp__law_tens []) (c__law_normal : Cal P w K mg base 1 "_law_normal" sp__law_normal []) : Cal P w K mg base 3 "_law_number" (sp__law_number K) [] := by
  refine calD F m sc__law_number (fun _ _ _ _ _ _ us hl => match us, hl with | [_], _ => rfl) len1 (fun cdv A outer s H vs Q E hr h => ⟨_, (pss_cons (ps_set (i := 1) sc__law_number.nd rfl (Or.inl rfl) (pe_c c__law_next hr (by decide) rfl (pa_cons (pv 0) (pa_cons pe_int pa_nil))))
    (pss_cons (ps_set (i := 2) sc__law_number.nd rfl (Or.inl rfl) (pe_c c__law_next hr (by decide) rfl (pa_cons (pv 0) (pa_cons pe_int pa_nil))))
    (pss_cons (ps_set (i := 3) sc__law_number.nd rfl (Or.inl rfl) pe_int)
    (pss_cut (ps_if (pt_cmpR op_in_seq (pv 1) (pe_lst (pa_cons pe_int (pa_cons pe_int (pa_cons pe_int pa_nil)))) rfl)
    (pss_cons (ps_set (i := 4) sc__law_number.nd rfl (Or.inl rfl) (pe_lst (pa_cons pe_int (pa_cons pe_int (pa_cons pe_int (pa_cons pe_int (pa_cons pe_int (pa_cons pe_int (pa_cons pe_int (pa_cons pe_int (pa_cons (pe_op op_pow pe_int pe_int) (pa_cons (pe_op op_pow pe_int pe_int) (pa_cons (pe_op op_pow pe_int pe_int) (pa_cons (pe_op op_pow pe_int pe_int) (pa_cons (pe_op op_pow pe_int pe_int) pa_nil)))))))))))))))
    (pss_one (ps_set (i := 2) sc__law_number.nd rfl (Or.inl rfl) (pe_op op_sub (pe_op op_add (pe_ix ix_list (pv 4) (pe_c c__law_next hr (by decide) rfl (pa_cons (pv 0) (pa_cons pe_int pa_nil))) (fun _ _ => rfl)) (pe_c c__law_next hr (by decide) rfl (pa_cons (pv 0) (pa_cons pe_int pa_nil)))) pe_int))))
    (pss_one (ps_if (pt_cmpR op_in_seq (pv 1) (pe_lst (pa_cons pe_int (pa_cons pe_int pa_nil))) rfl)
    (pss_cons (ps_set (i := 2) sc__law_number.nd rfl (Or.inl rfl) (pe_c c__law_next hr (by decide) rfl (pa_cons (pv 0) (pa_cons pe_int pa_nil))))
    (pss_one (ps_set (i := 3) sc__law_number.nd rfl (Or.inl rfl) (pe_op op_sub (pe_c c__law_next hr (by decide) rfl (pa_cons (pv 0) (pa_cons pe_int pa_nil))) pe_int))))
    (pss_one (ps_if (pt_cmpR op_eq (pv 1) pe_int (nomark _))
    (pss_cons (ps_set (i := 2) sc__law_number.nd rfl (Or.inl rfl) (pe_op op_add pe_int (pe_c c__law_next hr (by decide) rfl (pa_cons (pv 0) (pa_cons pe_int pa_nil)))))
    (pss_cons (ps_set (i := 3) sc__law_number.nd rfl (Or.inl rfl) (pe_ix ix_list (pe_lst (pa_cons pe_int (pa_cons pe_int (pa_cons pe_int (pa_cons pe_int (pa_cons pe_int (pa_cons pe_int (pa_cons (pe_un un_neg pe_int) (pa_cons (pe_op op_pow pe_int pe_int) (pa_cons (pe_un un_neg (pe_op op_pow pe_int pe_int)) pa_nil)))))))))) (pe_c c__law_next hr (by decide) rfl (pa_cons (pv 0) (pa_cons pe_int pa_nil))) (fun _ _ => rfl)))
    (pss_one (ps_if (PW.pt (pw_and (pt_cmpR op_eq (pe_callB call_abs (by rfl) nb.abs (by decide +kernel) (pa_cons (pv 3) pa_nil)) (pe_op op_pow pe_int pe_int) (nomark _)) (pw_and1 (pt_cmpR op_eq (pe_c c__law_next hr (by decide) rfl (pa_cons (pv 0) (pa_cons pe_int pa_nil))) pe_int (nomark _)))))
    (pss_one (ps_for PassesOwn.never rfl (pi_range1 rfl nb.range (pa_cons (pe_c c__law_next hr (by decide) rfl (pa_cons (pv 0) (pa_cons pe_int pa_nil))) pa_nil)) (pg_name (i := 5) sc__law_number.nd rfl (Or.inl rfl))
    (pss_one (ps_set (i := 3) sc__law_number.nd rfl (Or.inl rfl) (pe_op op_mulX (pv 3) (pe_op op_add (pe_op op_pow pe_int pe_int) pe_int))))))
    pss_nil))))
    (pss_one (ps_if (pt_cmpR op_gt (pv 1) pe_int (nomark _))
    (pss_cons (ps_set (i := 2) sc__law_number.nd rfl (Or.inl rfl) (pe_c c__law_big hr (by decide) rfl (pa_cons (pv 0) (pa_cons (pe_c c__law_tens hr (by decide) rfl (pa_cons (pe_op op_add pe_int (pe_c c__law_next hr (by decide) rfl (pa_cons (pv 0) (pa_cons pe_int pa_nil)))) pa_nil)) pa_nil))))
    (pss_cons (ps_set (i := 3) sc__law_number.nd rfl (Or.inl rfl) (pe_op op_sub (pe_c c__law_next hr (by decide) rfl (pa_cons (pv 0) (pa_cons pe_int pa_nil))) pe_int))
    (pss_one (ps_if (PW.pt (pw_and (pt_cmpR op_eq (pv 1) pe_int (nomark _)) (pw_and1 (pt_cmpR op_gt (pe_ix ix_list (pv 0) pe_int (fun _ _ => rfl)) pe_int (nomark _)))))
    (pss_cons (ps_asg (pe_op op_sub (pe_ix ix_list (pv 0) pe_int (fun _ _ => rfl)) pe_int) (pg_sub (pv 0) pe_int set_list))
    (pss_one (ps_for PassesOwn.never rfl (pi_range1 rfl nb.range (pa_cons (pe_c c__law_next hr (by decide) rfl (pa_cons (pv 0) (pa_cons (pe_ix ix_list (pe_lst (pa_cons pe_int (pa_cons pe_int pa_nil))) (pe_callTy call_int1 (by rfl) nb.int (by decide +kernel) (pa_cons (pe_cmpR op_eq (pe_c c__law_next hr (by decide) rfl (pa_cons (pv 0) (pa_cons pe_int pa_nil))) pe_int (nomark _)) pa_nil)) (fun _ _ => rfl)) pa_nil))) pa_nil)) (pg_name (i := 5) sc__law_number.nd rfl (Or.inl rfl))
    (pss_one (ps_set (i := 2) sc__law_number.nd rfl (Or.inl rfl) (pe_op op_add (pe_op op_mulX (pv 2) (pe_op op_add (pe_op op_pow pe_int pe_int) pe_int)) (pe_c c__law_next hr (by decide) rfl (pa_cons (pv 0) (pa_cons pe_int pa_nil)))))))))
    pss_nil))))
    pss_nil)))))))
    (pss_cons (ps_asg (pe_c c__law_normal hr (by decide) rfl (pa_cons (pe_ix ix_list (pe_lst (pa_cons (pv 2) (pa_cons (pe_un un_neg (pv 2)) pa_nil))) (pe_c c__law_next hr (by decide) rfl (pa_cons (pv 0) (pa_cons pe_int pa_nil))) (fun _ _ => rfl)) (pa_cons (pv 3) pa_nil))) (pg_tup rfl (pgs_cons (pg_name (i := 2) sc__law_number.nd rfl (Or.inl rfl)) (pgs_cons (pg_name (i := 3) sc__law_number.nd rfl (Or.inl rfl)) pgs_nil))))
    (pss_one (ps_ret (pe_tup (pa_cons pe_str (pa_cons (pv 2) (pa_cons (pv 3) pa_nil))))))))))), ?_⟩)
  obtain ⟨_, rfl, S, l, rfl, L, h⟩ := h
  walk_at "rd"
  refine b_next L (by decide) fun pick H1 a1 b1 L1 k1 => ?_
  walk_at "rd"
  refine b_next L1 (by decide) fun m0 H2 a2 b2 L2 k2 => ?_
  have k02 := k1.trans k2
  clear k1 k2 L1
  walk_at "rd"
  refine r_cut (Mid27 K S l H pick) ?_ ?_
  · walk_at "rd"
    refine ⟨by show 3 ≤ sizeLine; decide, fun p3 n3 => ?_⟩
    have L3 := L2.new n3 (.lst [.int 3, .int 4, .int 5])
    have k3 := k02.trans (Keep.of (same_upd n3 (.lst [.int 3, .int 4, .int 5])))
    refine ⟨p3, [.int 3, .int 4, .int 5], rfl, .inl (SqL.of upd_same), rfl, rfl, ?_⟩
    generalize upd H2 p3 (.lst [.int 3, .int 4, .int 5]) = H3 at L3 k3 ⊢
    clear L2 k02
    refine r_bl (r_ifTF (fun _ => ?_) (fun _ => ?_))
    · walk_at "rd"
      refine ⟨by show 13 ≤ sizeLine; decide, fun p4 n4 => ?_⟩
      have hE : upd H3 p4 (.lst (edges27.map V.int)) p4 = some (.lst (edges27.map V.int)) := upd_same
      have L4 := L3.new n4 (.lst (edges27.map V.int))
      have k4 := k3.trans (Keep.of (same_upd n4 (.lst (edges27.map V.int))))
      have pa := L3.ne_free n4
      walk_at "rd"
      refine b_next L4 (by decide) fun r5 H5 a5 b5 L5 k5 => ?_
      obtain ⟨v, hv, ev⟩ := atI_ints (ns := edges27) (k := r5) a5 b5
      have hv2 := edges27_in v hv
      refine r_ixL (SqL.of (k5 _ _ pa hE)) ev ?_
      walk_at "rd"
      refine b_next L5 (by decide) fun r6 H6 a6 b6 L6 k6 => ?_
      walk_at "rd"
      have e30 : (10 : Int) ^ 30 = 1000000000000000000000000000000 := by decide
      have e40 : (10 : Nat) ^ 40 = 10000000000000000000000000000000000000000 := by decide
      exact ⟨L6, (k4.trans k5).trans k6, _, _, _, _, p2000 (by rw [e40]; rw [e30] at hv2; omega), p950 (Nat.zero_le _), rfl⟩
    · walk_at "rd"
      refine ⟨by show 2 ≤ sizeLine; decide, fun p4 n4 => ?_⟩
      have L4 := L3.new n4 (.lst [.int 6, .int 7])
      have k4 := k3.trans (Keep.of (same_upd n4 (.lst [.int 6, .int 7])))
      refine ⟨p4, [.int 6, .int 7], rfl, .inl (SqL.of upd_same), rfl, rfl, ?_⟩
      generalize upd H3 p4 (.lst [.int 6, .int 7]) = H4 at L4 k4 ⊢
      clear L3 k3
      have e40 : (10 : Nat) ^ 40 = 10000000000000000000000000000000000000000 := by decide
      have e20 : (10 : Nat) ^ 20 = 100000000000000000000 := by decide
      refine r_bl (r_ifTF (fun _ => ?_) (fun _ => ?_))
      · walk_at "rd"
        refine b_next L4 (by decide) fun r5 H5 a5 b5 L5 k5 => ?_
        walk_at "rd"
        refine b_next L5 (by decide) fun r6 H6 a6 b6 L6 k6 => ?_
        walk_at "rd"
        exact ⟨L6, (k4.trans k5).trans k6, _, _, _, _, p2000 (by rw [e40]; omega), p950 (by rw [e20]; omega), rfl⟩
      walk_at "rd"
      refine r_ite (fun c => ?_) (fun c => ?_)
      · walk_at "rd"
        refine b_next L4 (by decide) fun r5 H5 a5 b5 L5 k5 => ?_
        walk_at "rd"
        refine b_pickI (-(10 ^ 20)) (10 ^ 20) L5 rfl (by show 9 ≤ sizeLine; decide) (by decide) rfl (bl_cons ⟨_, rfl, by decide +kernel, by decide +kernel⟩ (bl_cons ⟨_, rfl, by decide +kernel, by decide +kernel⟩ (bl_cons ⟨_, rfl, by decide +kernel, by decide +kernel⟩ (bl_cons ⟨_, rfl, by decide +kernel, by decide +kernel⟩ (bl_cons ⟨_, rfl, by decide +kernel, by decide +kernel⟩ (bl_cons ⟨_, rfl, by decide +kernel, by decide +kernel⟩ (bl_cons ⟨_, rfl, by decide +kernel, by decide +kernel⟩ (bl_cons ⟨_, rfl, by decide +kernel, by decide +kernel⟩ (bl_cons ⟨_, rfl, by decide +kernel, by decide +kernel⟩ bl_nil))))))))) fun z H6 a6 b6 _ L6 k6 => ?_
        have k6 := (k4.trans k5).trans k6
        have e20i : (10 : Int) ^ 20 = 100000000000000000000 := by decide
        rw [e20i] at a6 b6
        have hm1 : (1 + r5).natAbs < 10 ^ 2000 := p2000 (by rw [e40]; omega)
        have hz1 : z.natAbs < 10 ^ 950 := p950 (by rw [e20]; omega)
        walk_at "rd"
        refine r_ite (fun c => ?_) (fun c => ?_)
        · walk_at "rd"
          refine b_next L6 (by decide) fun r7 H7 a7 b7 L7 k7 => ?_
          walk_at "rd"
          refine r_ite (fun c => ?_) (fun c => ?_)
          · walk_at "rd"
            refine b_next L7 (by decide) fun r8 H8 a8 b8 L8 k8 => ?_
            walk_at "rd"
            refine r_turns (by omega) (by omega) (fun i σ H' => H' = H8 ∧ i ≤ 18 ∧ ∃ (x : Int) (y5 : Option V), x.natAbs < 10 ^ (21 + 51 * i) ∧ σ = [some (.ref S.a), some (.int pick), some (.int (1 + r5)), some (.int x), none, y5]) ⟨rfl, Nat.zero_le _, z, _, by rw [show (10 : Nat) ^ (21 + 51 * 0) = 1000000000000000000000 by decide]; omega, rfl⟩ ?_ ?_
            · rintro i σ _ hi ⟨rfl, hi2, x, y5, hx, rfl⟩
              walk_at "rd"
              refine r_I (mulx_ok (abs10 hx) (b := 250) (by decide +kernel) (by omega)) ?_
              walk_at "rd"
              exact ⟨rfl, by omega, _, _, turn10e hx, rfl⟩
            · rintro σ _ ⟨rfl, hi2, x, y5, hx, rfl⟩
              walk_at "rd"
              exact ⟨L8, (k6.trans k7).trans k8, _, _, _, _, hm1, Nat.lt_of_lt_of_le hx (Nat.pow_le_pow_right (by decide) (by omega)), rfl⟩
          · walk_at "rd"
            exact ⟨L7, k6.trans k7, _, _, _, _, hm1, hz1, rfl⟩
        · walk_at "rd"
          exact ⟨L6, k6, _, _, _, _, hm1, hz1, rfl⟩
      walk_at "rd"
      refine r_ite (fun c => ?_) (fun c => ?_)
      · walk_at "rd"
        refine b_next L4 (by decide) fun r5 H5 a5 b5 L5 k5 => ?_
        have k5 := k4.trans k5
        walk_at "rd"
        refine ⟨_, rfl, (1 + r5).toNat, congrArg V.int (by omega), by omega, ?_⟩
        refine ⟨_, _, rfl, S, l, _, rfl, rfl, Int.pow_pos (by decide), L5, fun r6 H6 a6 b6 L6 k6 => ?_⟩
        have e6 : r6.natAbs < 10 ^ (60 + 41 * 0) := by
          have h1 : (10 : Int) ^ ((1 + r5).toNat) ≤ 10 ^ 60 := by
            have h2 := pow10_le (a := (1 + r5).toNat) (b := 60) (by omega)
            exact_mod_cast h2
          have : (10 : Int) ^ 60 = ((10 ^ 60 : Nat) : Int) := by rw [Int.natCast_pow]; rfl
          omega
        have k6 := k5.trans k6
        walk_at "rd"
        refine b_next L6 (by decide) fun r7 H7 a7 b7 L7 k7 => ?_
        have k7 := k6.trans k7
        have ee : (r7 - 45).natAbs < 10 ^ 950 := p950 (by rw [e20]; omega)
        have e1 : r6.natAbs < 10 ^ 2000 := Nat.lt_of_lt_of_le e6 (Nat.pow_le_pow_right (by decide) (by decide))
        walk_at "rd"
        obtain ⟨kk, f5, e⟩ := L7.at_
        refine r_ite (fun c => ?_) (fun c => ?_)
        · walk_at "rd"
          refine r_ixL (SqL.of e) rfl ?_
          walk_at "rd"
          refine r_ite (fun c => ?_) (fun c => ?_)
          · walk_at "rd"
            refine r_ixL (SqL.of e) rfl ?_
            walk_at "rd"
            refine r_setL e rfl ?_
            walk_at "rd"
            have L8 := L7.put kk l (f5 - 1)
            have k8 := k7.trans (Keep.put (H := H7) (.lst [.ref S.nl, .int kk, .int l, .ref S.sl, .int (f5 - 1)]))
            refine ⟨by show 2 ≤ sizeLine; decide, fun p8 n8 => ?_⟩
            have L8' := L8.new n8 (.lst [.int 8, .int 46])
            have s8 := same_upd n8 (.lst [.int 8, .int 46])
            have ne8 := L8.ne_free n8
            have g8 : upd (upd H7 S.a (.lst [.ref S.nl, .int kk, .int l, .ref S.sl, .int (f5 - 1)])) p8 (.lst [.int 8, .int 46]) p8 = some (.lst [.int 8, .int 46]) := upd_same
            walk_at "rd"
            refine b_next L8' (by decide) fun r9 H9 a9 b9 L9 k9 => ?_
            walk_at "rd"
            refine .inr ⟨_, rfl, ?_⟩
            have g9 := k9 _ _ ne8 g8
            obtain ⟨tm, htm, htm2, etm⟩ : ∃ tm : Int, 0 < tm ∧ tm ≤ 46 ∧ atI [V.int 8, V.int 46] (if decide (r9 = 0) = true then 1 else 0) = some (.int tm) := by
              by_cases q : r9 = 0
              · rw [if_pos (decide_eq_true q)]
                exact ⟨46, by decide, by decide, atI_nat (j := 1) rfl⟩
              · rw [if_neg (by simp [q])]
                exact ⟨8, by decide, by decide, atI_nat (j := 0) rfl⟩
            refine r_ixL (SqL.of g9) etm ?_
            walk_at "rd"
            refine b_next L9 htm fun r10 H10 a10 b10 L10 k10 => ?_
            have k10 := ((k8.trans (Keep.of s8)).trans k9).trans k10
            walk_at "rd"
            refine r_turns (by omega) (by omega) (fun i σ H' => LB K S l H' ∧ Keep S H H' ∧ i ≤ 45 ∧ ∃ (x : Int) (y5 : Option V), x.natAbs < 10 ^ (60 + 41 * i) ∧ σ = [some (.ref S.a), some (.int pick), some (.int x), some (.int (r7 - 45)), none, y5]) ⟨L10, k10, Nat.zero_le _, r6, _, e6, rfl⟩ ?_ ?_
            · rintro i σ H11 hi ⟨L11, k11, hi2, x, y5, hx, rfl⟩
              walk_at "rd"
              refine r_I (mulx_ok (abs10 hx) (b := 200) (by decide +kernel) (by omega)) ?_
              walk_at "rd"
              refine b_next L11 (by decide) fun r12 H12 a12 b12 L12 k12 => ?_
              walk_at "rd"
              exact ⟨L12, k11.trans k12, by omega, _, _, turn10b hx a12 b12, rfl⟩
            · rintro σ H11 ⟨L11, k11, hi2, x, y5, hx, rfl⟩
              walk_at "rd"
              exact ⟨L11, k11, _, _, _, _, Nat.lt_of_lt_of_le hx (Nat.pow_le_pow_right (by decide) (by omega)), ee, rfl⟩
          · walk_at "rd"
            exact ⟨L7, k7, _, _, _, _, e1, ee, rfl⟩
        · walk_at "rd"
          exact ⟨L7, k7, _, _, _, _, e1, ee, rfl⟩
      · walk_at "rd"
        exact ⟨L4, k4, _, _, _, _, p2000 (by rw [e40]; omega), p950 (Nat.zero_le _), rfl⟩
  · rintro σ H3 ⟨L3, k3, m, e, y4, y5, hm, he, rfl⟩
    walk_at "rd"
    refine b_pick (xs := [.int m, .int (-m)]) L3 rfl (by show 2 ≤ sizeLine; decide) (by decide) rfl fun v H4 hv L4 k4 => ?_
    obtain ⟨z, rfl, hz⟩ : ∃ z, v = V.int z ∧ z.natAbs = m.natAbs := by
      rcases List.mem_cons.mp hv with e | e
      · exact ⟨_, e, rfl⟩
      · exact ⟨_, by simpa using e, Int.natAbs_neg m⟩
    walk_at "rd"
    refine ⟨_, _, rfl, z, e, rfl, rfl, fun p m' e' H5 hm' he' np hp s5 => ?_⟩
    refine r_gtup (SqT.of hp) rfl ?_
    walk_at "rd"
    refine ⟨by show 3 ≤ sizeLine; decide, fun q nq => ?_⟩
    have L6 := (L4.same s5).new nq (.tup [.str "number", .int m', .int e'])
    have hm2 : m'.natAbs < 10 ^ 2100 := Nat.lt_of_le_of_lt hm' (by rw [hz]; exact Nat.lt_trans hm (Nat.pow_lt_pow_right (by decide) (by decide)))
    have he2 : e'.natAbs < 10 ^ 1000 := by
      have q : (10 : Nat) ^ 950 + 3001 ≤ 10 ^ 1000 := by decide +kernel
      exact Nat.lt_of_le_of_lt he' (Nat.lt_of_lt_of_le (Nat.add_lt_add_right he 3001) q)
    exact h (.ref q) m' e' _ hm2 he2 (.tup upd_same (.cons (.str _) (.cons (.int _) (.cons (.int _) .nil)))) L6 (((k3.trans k4).trans (Keep.of s5)).trans (Keep.of (same_upd nq _)))
theorem ok__law_leaf (F : FunD K "_law_leaf" "_law_leaf" (defArgs s__law_leaf) (defBody s__law_leaf) (defScope s__law_leaf) [] [] (glAd "_law_leaf" K) fd) (m : mg "_law_leaf" = some (.ref (glAd "_law_leaf" K))) (nb : Nm K mg) (c__law_next : Cal P w K mg base 1 "_law_next" (sp__law_next K) []) (c__law_number : Cal P w K mg base 3 "_law_number" (sp__law_number K) []) (c__law_points : Cal P w K mg base 3 "_law_points" (sp__law_points K) []) (c__law_octets : Cal P w K mg base 3 "_law_octets" (sp__law_octets K) []) : Cal P w K mg base 4 "_law_leaf" (sp__law_leaf K) [] := by
  refine calD F m sc__law_leaf (fun _ _ _ _ _ _ us hl => match us, hl with | [_], _ => rfl) len1 (fun cdv A outer s H vs Q E hr h => ⟨_, (pss_cons (ps_set (i := 1) sc__law_leaf.nd rfl (Or.inl rfl) (pe_ix ix_list (pe_lst (pa_cons pe_str (pa_cons pe_str (pa_cons pe_str (pa_cons pe_str (pa_cons pe_str (pa_cons pe_str pa_nil))))))) (pe_c c__law_next hr (by decide) rfl (pa_cons (pv 0) (pa_cons pe_int pa_nil))) (fun _ _ => rfl)))
    (pss_cons (ps_if (pt_cmpR op_eq (pv 1) pe_str (nomark _))
    (pss_one (ps_ret (pe_tup (pa_cons pe_str (pa_cons (pe_cmpR op_eq (pe_c c__law_next hr (by decide) rfl (pa_cons (pv 0) (pa_cons pe_int pa_nil))) pe_int (nomark _)) pa_nil)))))
    pss_nil)
    (pss_cons (ps_if (pt_cmpR op_eq (pv 1) pe_str (nomark _))
    (pss_one (ps_ret (pe_c c__law_number hr (by decide) rfl (pa_cons (pv 0) pa_nil))))
    pss_nil)
    (pss_cons (ps_if (pt_cmpR op_eq (pv 1) pe_str (nomark _))
    (pss_one (ps_ret (pe_tup (pa_cons pe_str (pa_cons (pe_c c__law_octets hr (by decide) rfl (pa_cons (pv 0) pa_nil)) pa_nil)))))
    pss_nil)
    (pss_cons (ps_if (pt_cmpR op_eq (pv 1) pe_str (nomark _))
    (pss_one (ps_ret (pe_tup (pa_cons pe_str (pa_cons (pe_c c__law_points hr (by decide) rfl (pa_cons (pv 0) pa_nil)) pa_nil)))))
    pss_nil)
    (pss_one (ps_ret (pe_tup (pa_cons pe_str pa_nil))))))))), ?_⟩)
  obtain ⟨_, rfl, S, l, rfl, L, h⟩ := h
  walk_at "rd"
  refine b_pick L rfl (by show 6 ≤ sizeLine; decide) (by decide) rfl fun v H1 hv L1 k1 => ?_
  obtain ⟨kind, rfl⟩ : ∃ z, v = V.str z := by
    simp only [List.mem_cons, List.not_mem_nil, or_false] at hv
    rcases hv with e|e|e|e|e|e <;> exact ⟨_, e⟩
  walk_at "rd"
  refine r_ite (fun c => ?_) (fun c => ?_)
  · walk_at "rd"
    refine b_next L1 (by decide) fun r2 H2 a2 b2 L2 k2 => ?_
    walk_at "rd"
    refine ⟨by show 2 ≤ sizeLine; decide, fun q nq => ?_⟩
    exact h (.ref q) (.truth (decide (r2 = 0))) _ trivial (Nat.le_refl _) (.tup upd_same (.cons (.str _) (.cons (.bl _) .nil))) (L2.new nq _) ((k1.trans k2).trans (Keep.of (same_upd nq _)))
  walk_at "rd"
  refine r_ite (fun c => ?_) (fun c => ?_)
  · walk_at "rd"
    exact ⟨_, rfl, S, l, rfl, L1, fun v m e H2 hm he hv L2 k2 => h v (.number m e) H2 ⟨hm, he⟩ (Nat.le_refl _) hv L2 (k1.trans k2)⟩
  walk_at "rd"
  refine r_ite (fun c => ?_) (fun c => ?_)
  · walk_at "rd"
    refine ⟨_, rfl, S, l, rfl, L1, fun p os H2 hp2 hl L2 k2 => ?_⟩
    walk_at "rd"
    refine ⟨by show 2 ≤ sizeLine; decide, fun q nq => ?_⟩
    exact h (.ref q) (.bytes os) _ (Nat.le_trans hl (by decide)) (by show 1 + os.length / 3000 ≤ 1; omega) (.tup upd_same (.cons (.str _) (.cons (tp_kd (same_upd nq _ _ _ hp2)) .nil))) (L2.new nq _) ((k1.trans k2).trans (Keep.of (same_upd nq _)))
  walk_at "rd"
  refine r_ite (fun c => ?_) (fun c => ?_)
  · walk_at "rd"
    refine ⟨_, rfl, S, l, rfl, L1, fun p os H2 hp2 hl L2 k2 => ?_⟩
    walk_at "rd"
    refine ⟨by show 2 ≤ sizeLine; decide, fun q nq => ?_⟩
    exact h (.ref q) (.text os) _ hl (Nat.le_refl _) (.tup upd_same (.cons (.str _) (.cons (tp_kd (same_upd nq _ _ _ hp2)) .nil))) (L2.new nq _) ((k1.trans k2).trans (Keep.of (same_upd nq _)))
  walk_at "rd"
  refine ⟨by show 1 ≤ sizeLine; decide, fun q nq => ?_⟩
  exact h (.ref q) .null _ trivial (Nat.le_refl _) (.tup upd_same (.cons (.str _) .nil)) (L1.new nq _) (k1.trans (Keep.of (same_upd nq _)))
end

theorem map_get {α : Type} {f : α → V} {l : List α} {i : Nat} {x : V} (h : (l.map f)[i]? = some x) : ∃ e, l[i]? = some e ∧ x = f e ∧ l.take (i + 1) = l.take i ++ [e] := by
  rw [List.getElem?_map] at h
  obtain ⟨e, h1, h2⟩ := Option.map_eq_some_iff.mp h
  refine ⟨e, h1, h2.symm, ?_⟩
  rw [List.take_succ, h1]
  rfl
theorem dpa_map {α : Type} {K : Frg} {H : Hp} {f : α → V} {g : α → PyData} : ∀ {l : List α}, (∀ e ∈ l, Dp K H (f e) (g e)) → DpAll K H (l.map f) (l.map g)
  | [], _ => .nil
  | x :: l, h => .cons (h x (List.mem_cons_self ..)) (dpa_map fun e he => h e (List.mem_cons_of_mem _ he))
theorem tpa_map {α : Type} {H : Hp} {f : α → V} {g : α → PyData} : ∀ {l : List α}, (∀ e ∈ l, Tp H (f e) (g e)) → TpAll H (l.map f) (l.map g)
  | [], _ => .nil
  | x :: l, h => .cons (h x (List.mem_cons_self ..)) (tpa_map fun e he => h e (List.mem_cons_of_mem _ he))
abbrev s__law_value : Stmt := (top 55)
theorem sc__law_value : FnScope ["state", "deep", "pick", "many", "k", "entries", "key", "entry"] ["state", "deep"] (defScope s__law_value) := ⟨rfl, rfl, rfl, by decide +kernel, rfl, by decide +kernel, by decide +kernel⟩
/-- what the budget l, gone down to l', allows for a value of size n -/
def Bud (l l' : Int) (n : Nat) : Prop := (n : Int) + 1 ≤ 2 * (l - l') ∧ l - l' ≤ 1 + 49 * (max l 0 - max l' 0)
/-- the same for k values, of size n together -/
def BudL (l l' : Int) (n k : Nat) : Prop := (n : Int) + k ≤ 2 * (l - l') ∧ l - l' ≤ k + 49 * (max l 0 - max l' 0)
theorem budL_nil (l : Int) : BudL l l 0 0 := by unfold BudL; omega
theorem budL_cons {l l1 l2 : Int} {n m k : Nat} (a : BudL l l1 n k) (b : Bud l1 l2 m) : BudL l l2 (n + m) (k + 1) := by
  unfold BudL Bud at *
  omega
theorem bud_node {l l' : Int} {n k : Nat} (hl : 0 < l - 1) (hk : k ≤ 49) (a : BudL (l - 1) l' n k) : Bud l l' (1 + n) := by
  unfold BudL at a
  unfold Bud
  omega
theorem bud_map {l l' : Int} {n k : Nat} (hl : 0 < l - 1) (hk : k ≤ 49) (a : BudL (l - 1) l' n k) : Bud l l' (1 + (n + k)) := by
  unfold BudL at a
  unfold Bud
  omega
theorem bud_leaf {l : Int} {n : Nat} (h : n ≤ 1) : Bud l (l - 1) n := by
  unfold Bud
  omega
theorem vb_ref {H : Hp} {v : V} {t : Vb} (h : Tp H v t.dat) : ∃ u, v = .ref u := by
  cases t <;> (obtain ⟨a, _, e, _⟩ := tp_tup h; exact ⟨a, e⟩)
theorem bokL_app {n : Nat} {xs ys : List Vb} (h1 : bokL n xs) (h2 : bokL n ys) : bokL n (xs ++ ys) := bokL_of fun x hx => by
  rcases List.mem_append.mp hx with q | q
  · exact bokL_mem h1 x q
  · exact bokL_mem h2 x q
theorem bdL_app (xs ys : List Vb) : bdL (xs ++ ys) = bdL xs ++ bdL ys := by rw [bdL_map, bdL_map, bdL_map, List.map_append]
theorem bszL_app : ∀ (xs ys : List Vb), bszL (xs ++ ys) = bszL xs + bszL ys
  | [], ys => (Nat.zero_add _).symm
  | x :: xs, ys => by
    show bsz x + bszL (xs ++ ys) = bsz x + bszL xs + bszL ys
    rw [bszL_app xs ys, Nat.add_assoc]
theorem bszM_sum : ∀ es : List (List Int × Vb), bszM es = (es.map fun e => bsz e.2).sum + es.length
  | [] => rfl
  | (k, v) :: es => by
    show 1 + bsz v + bszM es = (bsz v + (es.map fun e => bsz e.2).sum) + (es.length + 1)
    rw [bszM_sum es]
    omega
theorem EntAt.tk {H H' : Hp} {e : Ent} (k : Tk H H') (h : EntAt H e) : EntAt H' e := ⟨k _ _ h.1, k _ _ h.2⟩
/-- an entry and its value -/
def EvB (H : Hp) (n : Nat) (e : Ent × Vb) : Prop := EntAt H e.1 ∧ Tp H (.ref e.1.u) e.2.dat ∧ e.2.ok n ∧ Pts e.1.k
theorem EvB.tk {H H' : Hp} {n : Nat} {e : Ent × Vb} (k : Tk H H') (h : EvB H n e) : EvB H' n e := ⟨h.1.tk k, Tp.tk k _ _ h.2.1, h.2.2⟩
theorem tpa_entB {H : Hp} {n : Nat} {zs : List (Ent × Vb)} (h : ∀ e ∈ zs, EvB H n e) : TpAll H ((zs.map fun e => e.1).map fun e => V.ref e.t) (bdM (zs.map fun e => (e.1.k, e.2))) := by
  rw [bdM_map, List.map_map, List.map_map]
  exact tpa_map fun e he => .tup (h e he).1.1 (.cons (tp_kd (h e he).1.2) (.cons (h e he).2.1 .nil))
def sp__law_value (K : Frg) (n : Nat) : Sp := sp2 fun a d H Q _ => ∃ (S : SC) (l : Int) (deep : Nat), a = .ref S.a ∧ d = .int (deep : Nat) ∧ deep < n ∧ LB K S l H ∧
  ∀ (v : V) (t : Vb) (l' : Int) (H' : Hp), t.ok deep → Bud l l' (bsz t) → Tp H' v t.dat → LB K S l' H' → Keep S H H' → Q v H'
theorem no__law_value {K : Frg} {vs : List V} {H : Hp} {Q : VK} {E : XK} (h : sp__law_value K 0 vs H Q E) : False := by
  obtain ⟨_, _, rfl, S, l, deep, _, _, h, _⟩ := h
  exact absurd h (Nat.not_lt_zero _)
section
variable {P : Program} {w : World} {K : PySem.W.Frag} {mg : Str → Option Value} {base : Heap} {f : Addr} {fd : FuncData}
theorem ok__law_value (n : Nat) (F : FunD K "_law_value" "_law_value" (defArgs s__law_value) (defBody s__law_value) (defScope s__law_value) [] [] (glAd "_law_value" K) fd) (m : mg "_law_value" = some (.ref (glAd "_law_value" K))) (nb : Nm K mg) (c__law_next : Cal P w K mg base 1 "_law_next" (sp__law_next K) []) (c__law_points : Cal P w K mg base 3 "_law_points" (sp__law_points K) []) (c__law_leaf : Cal P w K mg base 4 "_law_leaf" (sp__law_leaf K) []) (c__law_parts : Cal P w K mg base 2 "_law_parts" (sp__law_parts K) []) (c__law_value : Cal P w K mg base (5 + n) "_law_value" (sp__law_value K n) []) : Cal P w K mg base (5 + n + 1) "_law_value" (sp__law_value K (n + 1)) [] := by
  refine calD F m sc__law_value (fun _ _ _ _ _ _ us hl => match us, hl with | [_, _], _ => rfl) len2 (fun cdv A outer s H vs Q E hr h => ⟨_, (pss_cons (ps_asg (pe_op op_sub (pe_ix ix_list (pv 0) pe_int (fun _ _ => rfl)) pe_int) (pg_sub (pv 0) pe_int set_list))
    (pss_cons (ps_set (i := 2) sc__law_value.nd rfl (Or.inl rfl) (pe_c c__law_next hr (by omega) rfl (pa_cons (pv 0) (pa_cons pe_int pa_nil))))
    (pss_cons (ps_if (PW.pt (pw_or (pt_cmpR op_eq (pv 1) pe_int (nomark _)) (pw_or (pt_cmpR op_le (pe_ix ix_list (pv 0) pe_int (fun _ _ => rfl)) pe_int (nomark _)) (pw_or1 (pt_cmpR op_lt (pv 2) pe_int (nomark _))))))
    (pss_one (ps_ret (pe_c c__law_leaf hr (by omega) rfl (pa_cons (pv 0) pa_nil))))
    pss_nil)
    (pss_cons (ps_set (i := 3) sc__law_value.nd rfl (Or.inl rfl) (pe_c c__law_parts hr (by omega) rfl (pa_cons (pv 0) pa_nil)))
    (pss_cons (ps_if (pt_cmpR op_eq (pv 2) pe_int (nomark _))
    (pss_one (ps_ret (pe_tup (pa_cons pe_str (pa_cons (pe_callTy call_tuple_of (by rfl) nb.tuple (by decide +kernel) (pa_cons (pe_lc (own := [("k", 4)]) (g := gName 4) (tt := tYes) rfl sc__law_value.nd (pi_range1 rfl nb.range (pa_cons (pv 3) pa_nil)) (blkOk_by (N := ["state", "deep", "pick", "many", "k", "entries", "key", "entry"]) (sc := defScope s__law_value) (by decide +kernel)) (fun _ _ _ _ _ => pg_name (i := 4) sc__law_value.nd rfl (Or.inl rfl)) (fun _ _ _ _ _ => pts_nil) (fun _ _ _ _ _ => (pe_c c__law_value hr (by omega) rfl (pa_cons (pv 0) (pa_cons (pe_op op_sub (pv 1) pe_int) pa_nil))))) pa_nil)) pa_nil)))))
    pss_nil)
    (pss_cons (ps_set (i := 5) sc__law_value.nd rfl (Or.inl rfl) (pe_lst pa_nil))
    (pss_cons (ps_for PassesOwn.never rfl (pi_range1 rfl nb.range (pa_cons (pv 3) pa_nil)) (pg_name (i := 4) sc__law_value.nd rfl (Or.inl rfl))
    (pss_cons (ps_set (i := 6) sc__law_value.nd rfl (Or.inl rfl) (pe_c c__law_points hr (by omega) rfl (pa_cons (pv 0) pa_nil)))
    (pss_one (ps_if (pt_cmpR (op_notInD (hu65 hr)) (pv 6) (pe_lc (own := [("entry", 7)]) (g := gName 7) (tt := tYes) rfl sc__law_value.nd (pi_list (pv 5)) (blkOk_by (N := ["state", "deep", "pick", "many", "k", "entries", "key", "entry"]) (sc := defScope s__law_value) (by decide +kernel)) (fun _ _ _ _ _ => pg_name (i := 7) sc__law_value.nd rfl (Or.inl rfl)) (fun _ _ _ _ _ => pts_nil) (fun _ _ _ _ _ => (pe_ix (show IxR _ (rIxT K) from ix_tup) (pv 7) pe_int (fun _ _ => rfl)))) rfl)
    (pss_one (ps_expr (pe_bm PySem.F.plainAttrs_list PySem.F.slot_list_append PySem.F.type_list_append mt_append (pv 5) (pa_cons (pe_tup (pa_cons (pv 6) (pa_cons (pe_c c__law_value hr (by omega) rfl (pa_cons (pv 0) (pa_cons (pe_op op_sub (pv 1) pe_int) pa_nil))) pa_nil))) pa_nil))))
    pss_nil))))
    (pss_one (ps_ret (pe_tup (pa_cons pe_str (pa_cons (pe_callTy call_tuple_of (by rfl) nb.tuple (by decide +kernel) (pa_cons (pe_callB (cr_sortedE hr.units) (by rfl) nb.sorted (by decide +kernel) (pa_cons (pv 5) pa_nil)) pa_nil)) pa_nil)))))))))))), ?_⟩)
  obtain ⟨_, _, rfl, S, l0, deep, rfl, rfl, hd, L, h⟩ := h
  obtain ⟨k0, f5, e⟩ := L.at_
  walk_at "rd"
  refine r_ixL (SqL.of e) rfl ?_
  walk_at "rd"
  refine r_setL e rfl ?_
  walk_at "rd"
  have L1 := L.put k0 (l0 - 1) f5
  have kk1 : Keep S H (upd H S.a (.lst [.ref S.nl, .int k0, .int (l0 - 1), .ref S.sl, .int f5])) := Keep.put _
  refine b_next L1 (by decide) fun pick H2 a2 b2 L2 k2 => ?_
  have k2 := kk1.trans k2
  clear L1 kk1
  obtain ⟨k0', f5', e2⟩ := L2.at_
  walk_at "ri"
  refine r_ifB (decide (deep = 0 ∨ l0 - 1 ≤ 0 ∨ pick < 2)) ?_ ?_
  · intro R hR
    walk_at "rd"
    refine r_ite (fun c => ?_) (fun c => ?_)
    · walk_at "rd"
      rw [decide_eq_true (.inl (by omega))] at hR
      exact hR
    walk_at "rd"
    refine r_ixL (SqL.of e2) rfl ?_
    walk_at "rd"
    refine r_ite (fun c2 => ?_) (fun c2 => ?_)
    · walk_at "rd"
      rw [decide_eq_true (.inr (.inl c2))] at hR
      exact hR
    walk_at "rd"
    have ed : decide (pick < 2) = decide (deep = 0 ∨ l0 - 1 ≤ 0 ∨ pick < 2) := decide_eq_decide.mpr ⟨fun q => .inr (.inr q), fun q => by omega⟩
    rw [ed]
    exact hR
  refine r_ite (fun c => ?_) (fun c => ?_)
  · walk_at "rd"
    exact ⟨_, rfl, S, _, rfl, L2, fun v t H3 hl hz hv L3 k3 => h v t _ H3 (ok_leaf hl _) (bud_leaf hz) hv L3 (k2.trans k3)⟩
  obtain ⟨deep, rfl⟩ : ∃ d, deep = d + 1 := ⟨deep - 1, by omega⟩
  have ed : ((deep + 1 : Nat) : Int) - 1 = ((deep : Nat) : Int) := by omega
  have hl0 : 0 < l0 - 1 := by omega
  clear e2
  walk_at "rd"
  refine ⟨_, rfl, S, _, rfl, L2, fun m H4 hm0 hm1 L4 k4 => ?_⟩
  have k4 := k2.trans k4
  clear L2 k2
  walk_at "rd"
  refine r_ite (fun c => ?_) (fun c => ?_)
  · walk_at "rd"
    refine ⟨by omega, by omega, fun D nD => ?_⟩
    have DS := L4.ne_free nD
    have nD0 : H D = none := k4.free L4.ls nD
    refine lc_range (fun i H' => ∃ l' : Int, LB K S l' H' ∧ Keep S H H' ∧ ∃ (vs : List V) (ts : List Vb), ts.length = i ∧ BudL (l0 - 1) l' (bszL ts) i ∧ bokL deep ts ∧ TpAll H' vs (bdL ts) ∧ H' D = some (.lst vs)) ⟨_, L4.new nD _, k4.trans (Keep.of (same_upd nD _)), [], [], rfl, budL_nil _, trivial, .nil, upd_same⟩ ?_ ?_
    · rintro i H5 hi ⟨l1, L5, k5, vs, ts, e1, eb, e2, e3, e4⟩
      walk_at "rd"
      refine ⟨rfl, ?_⟩
      walk_at "rd"
      refine ⟨_, _, rfl, S, l1, deep, rfl, congrArg V.int ed, by omega, L5, fun v t l2 H6 ok bd tp L6 k6 => ?_⟩
      have hD6 := k6 _ _ DS e4
      have hl : vs.length = i := by rw [tpAll_len e3, bdL_map, List.length_map, e1]
      have tk6 := (keep_tk L5.ls k6).trans (tk_put (o := .lst (vs ++ [v])) hD6)
      refine ⟨vs, hD6, small1000 (by omega), l2, L4.away nD L6 _, keep_away (k5.trans k6) nD0, vs ++ [v], ts ++ [t], by rw [List.length_append, e1]; rfl, by rw [bszL_app]; exact budL_cons eb bd, bokL_app e2 ⟨ok, trivial⟩, ?_, upd_same⟩
      rw [bdL_app]
      exact tpAll_app (TpAll.tk tk6 _ _ e3) (.cons (Tp.tk (tk_put hD6) _ _ tp) .nil)
    · rintro H5 ⟨l1, L5, k5, vs, ts, e1, eb, e2, e3, e4⟩
      walk_at "rd"
      refine ⟨D, _, rfl, .inl ⟨SqL.of e4, fun t nt => ?_⟩⟩
      walk_at "rd"
      refine ⟨by show 2 ≤ sizeLine; decide, fun q nq => ?_⟩
      have s7 := (same_upd nt (.tup vs)).trans (same_upd nq (.tup [.str "list", .ref t]))
      refine h (.ref q) (.ls ts) _ _ ⟨by omega, e2⟩ (bud_node hl0 (by omega) eb) (.tup upd_same (.cons (.str _) (.cons (.tup (same_upd nq _ _ _ upd_same) (TpAll.tk (Same.tk s7) _ _ e3)) .nil))) (L5.same s7) (k5.trans (Keep.of s7))
  · walk_at "rd"
    refine ⟨Nat.zero_le _, fun D nD => ?_⟩
    have DS := L4.ne_free nD
    have nD0 : H D = none := k4.free L4.ls nD
    walk_at "rd"
    refine r_turns (by omega) (by omega) (fun i σ H' => ∃ l' : Int, LB K S l' H' ∧ Keep S H H' ∧ ∃ (es : List (Ent × Vb)) (y4 y6 y7 : Option V), es.length ≤ i ∧ BudL (l0 - 1) l' ((es.map fun e => bsz e.2).sum) es.length ∧ (∀ e ∈ es, EvB H' deep e) ∧ (es.map (·.1.k)).Nodup ∧ H' D = some (.lst (es.map fun e => V.ref e.1.t)) ∧ σ = [some (.ref S.a), some (.int (deep + 1 : Nat)), some (.int pick), some (.int m), y4, some (.ref D), y6, y7])
      ⟨_, L4.new nD _, k4.trans (Keep.of (same_upd nD _)), [], _, _, _, Nat.le_refl _, budL_nil _, fun _ h => absurd h (by simp), List.nodup_nil, upd_same, rfl⟩ ?_ ?_
    · rintro i σ H5 hi ⟨l1, L5, k5, es, y4, y6, y7, e1, eb, e2, e3, e4, rfl⟩
      walk_at "rd"
      refine ⟨_, rfl, S, l1, rfl, L5, fun q ps H6 hq hpl L6 k6 => ?_⟩
      have hD6 := k6 _ _ DS e4
      have e2 : ∀ e ∈ es, EvB H6 deep e := fun e he => (e2 e he).tk (keep_tk L5.ls k6)
      have k6 := k5.trans k6
      clear L5 k5 e4
      walk_at "rd"
      refine ⟨D, rfl, ⟨_, SqL.of hD6⟩, fun D2 nD2 => ?_⟩
      refine lc_list (xs := es.map fun e => V.ref e.1.t) (fun j H' => Same H6 H' ∧ H' D2 = some (.lst ((es.take j).map fun e => V.ref e.1.q))) ⟨same_upd nD2 _, upd_same⟩ (fun j H' _ hh => SqL.of (hh.1 _ _ hD6)) ?_ ?_
      · rintro j x H7 hx ⟨s7, g7⟩
        obtain ⟨en, hj, rfl, et⟩ := map_get hx
        walk_at "rd"
        refine ⟨rfl, ?_⟩
        walk_at "rd"
        refine r_ixT (SqT.of (s7 _ _ (e2 en (List.mem_of_getElem? hj)).1.1)) rfl ?_
        refine ⟨_, g7, small1000 (by rw [List.length_map, List.length_take]; omega), same_away s7 nD2, ?_⟩
        rw [upd_same, et, List.map_append]
        rfl
      rintro H7 ⟨s7, g7⟩
      rw [List.length_map, List.take_length] at g7
      have L7 := L6.same s7
      have k7 := k6.trans (Keep.of s7)
      have hD7 := s7 _ _ hD6
      have hq7 := s7 _ _ hq
      have e2 : ∀ e ∈ es, EvB H7 deep e := fun e he => (e2 e he).tk (Same.tk s7)
      clear L6 k6 hD6 hq s7
      refine ⟨kd ps, (es.map (·.1.k)).map kd, Tp.dp _ _ (tp_kd hq7), .lst (SqL.of g7) ?_, shaped_kd ps, shaped_kds _, ?_⟩
      · rw [List.map_map]
        exact dpa_map fun e he => Tp.dp _ _ (tp_kd (e2 e he).1.2)
      rw [eqv_kds]
      refine r_bl (r_iten (fun c => ?_) (fun c => ?_))
      · walk_at "rd"
        refine ⟨tyL hD7, ?_⟩
        walk_at "rd"
        refine ⟨_, _, rfl, S, l1, deep, rfl, congrArg V.int ed, by omega, L7, fun v t l2 H8 ok bd tp L8 k8 => ?_⟩
        obtain ⟨u, rfl⟩ := vb_ref tp
        have tk8 := keep_tk L7.ls k8
        have hD8 := k8 _ _ DS hD7
        walk_at "rd"
        refine ⟨by show 2 ≤ sizeLine; decide, fun T nT => ?_⟩
        have s9 := same_upd nT (.tup [.ref q, .ref u])
        have hD9 := s9 _ _ hD8
        have L9 := L8.new nT (.tup [.ref q, .ref u])
        walk_at "rd"
        refine r_app hD9 (small1000 (by rw [List.length_map]; omega)) ?_
        have tk9 := (Same.tk s9).trans (tk_put (o := .lst ((es.map fun e => V.ref e.1.t) ++ [.ref T])) hD9)
        refine ⟨l2, L4.away nD L9 _, keep_away ((k7.trans k8).trans (Keep.of s9)) nD0, es ++ [(⟨T, q, u, ps⟩, t)], _, _, _, by rw [List.length_append]; show es.length + 1 ≤ i + 1; omega, ?_, fun e he => ?_, ?_, ?_, rfl⟩
        · rw [List.map_append, List.sum_append, List.length_append]
          exact budL_cons eb bd
        · rcases List.mem_append.mp he with q1 | q1
          · exact (e2 e q1).tk (tk8.trans tk9)
          · have e5 : e = (⟨T, q, u, ps⟩, t) := by simpa using q1
            subst e5
            exact ⟨⟨tk_put hD9 _ _ upd_same, tk9 _ _ (tk8 _ _ hq7)⟩, Tp.tk tk9 _ _ tp, ok, hpl⟩
        · rw [List.map_append, List.nodup_append]
          refine ⟨e3, by simp, ?_⟩
          intro a ha b hb
          have eb : b = ps := by simpa using hb
          rw [eb]
          exact fun z => c (z ▸ ha)
        · rw [upd_same, List.map_append]
          rfl
      · walk_at "rd"
        exact ⟨l1, L7, k7, es, _, _, _, by omega, eb, e2, e3, hD7, rfl⟩
    · rintro σ H5 ⟨l1, L5, k5, es, y4, y6, y7, e1, eb, e2, e3, e4, rfl⟩
      walk_at "rd"
      refine ⟨D, es.map (·.1), rfl, ?_, fun e he => ?_, ?_, fun es' l' pe srt nl => ?_⟩
      · rw [List.map_map]
        exact SqL.of e4
      · obtain ⟨x, hx, rfl⟩ := List.mem_map.mp he
        exact (e2 x hx).1
      · rw [List.map_map]
        exact e3
      obtain ⟨zs, pz, rfl⟩ := perm_up (fun e : Ent × Vb => e.1) pe
      walk_at "rd"
      refine ⟨l', _, rfl, .inl ⟨SqL.of upd_same, fun t nt => ?_⟩⟩
      walk_at "rd"
      refine ⟨by show 2 ≤ sizeLine; decide, fun q nq => ?_⟩
      have s7 := ((same_upd nl (.lst ((zs.map fun e => e.1).map fun e => V.ref e.t))).trans (same_upd nt (.tup ((zs.map fun e => e.1).map fun e => V.ref e.t)))).trans (same_upd nq (.tup [.str "map", .ref t]))
      have e7 : ∀ e ∈ zs, EvB _ deep e := fun e he => (e2 e (pz.mem_iff.mp he)).tk (Same.tk s7)
      have ezl := pz.length_eq
      have ezs : (zs.map fun e => bsz e.2).sum = (es.map fun e => bsz e.2).sum := (pz.map _).sum_nat
      refine h (.ref q) (.mp (zs.map fun e => (e.1.k, e.2))) _ _ ⟨?_, ?_, ?_⟩ ?_ (.tup upd_same (.cons (.str _) (.cons (.tup (same_upd nq _ _ _ upd_same) ?_) .nil))) (L5.same s7) (k5.trans (Keep.of s7))
      · rw [List.length_map, ezl]
        omega
      · intro e he
        obtain ⟨x, hx, rfl⟩ := List.mem_map.mp he
        exact (e7 x hx).2.2.2
      · refine bokM_of fun e he => ?_
        obtain ⟨x, hx, rfl⟩ := List.mem_map.mp he
        exact (e7 x hx).2.2.1
      · show Bud l0 l1 (1 + bszM (zs.map fun e => (e.1.k, e.2)))
        rw [bszM_sum, List.length_map, List.map_map, ezl]
        have ez2 : (zs.map ((fun e : List Int × Vb => bsz e.2) ∘ fun e : Ent × Vb => (e.1.k, e.2))).sum = (es.map fun e => bsz e.2).sum := ezs
        rw [ez2]
        exact bud_map hl0 (by omega) eb
      · exact tpa_entB e7
theorem rec__law_value (F : FunD K "_law_value" "_law_value" (defArgs s__law_value) (defBody s__law_value) (defScope s__law_value) [] [] (glAd "_law_value" K) fd) (m : mg "_law_value" = some (.ref (glAd "_law_value" K))) (nb : Nm K mg) (c__law_next : Cal P w K mg base 1 "_law_next" (sp__law_next K) []) (c__law_points : Cal P w K mg base 3 "_law_points" (sp__law_points K) []) (c__law_leaf : Cal P w K mg base 4 "_law_leaf" (sp__law_leaf K) []) (c__law_parts : Cal P w K mg base 2 "_law_parts" (sp__law_parts K) []) : ∀ n, Cal P w K mg base (5 + n) "_law_value" (sp__law_value K n) []
  | 0 => calD (k := 4) F m sc__law_value (fun _ _ _ _ _ _ us hl => match us, hl with | [_, _], _ => rfl) (fun _ _ _ _ h => (no__law_value h).elim) (fun _ _ _ _ _ _ _ _ _ h => (no__law_value h).elim)
  | n + 1 => ok__law_value n F m nb c__law_next c__law_points c__law_leaf c__law_parts (rec__law_value F m nb c__law_next c__law_points c__law_leaf c__law_parts n)
end

abbrev s__law_towered : Stmt := (top 56)
theorem sc__law_towered : FnScope ["state", "value", "k", "pick"] ["state", "value"] (defScope s__law_towered) := ⟨rfl, rfl, rfl, by decide +kernel, rfl, by decide +kernel, by decide +kernel⟩
def sp__law_towered (K : Frg) : Sp := sp2 fun a b H Q _ => ∃ S l t, a = .ref S.a ∧ LB K S l H ∧ Tp H b (Vb.dat t) ∧ t.ok 4 ∧ ∀ (v : V) (t' : Vb) (n : Nat) (H' : Hp), n ≤ 24 → t'.ok n → bsz t' ≤ bsz t + 40 → Tp H' v t'.dat → LB K S l H' → Keep S H H' → Q v H'
theorem new_b {K : Frg} {S : SC} {l : Int} {H : Hp} {p : Addr} {o : HO} (L : LB K S l H) (hp : H p = none) : ∃ H', upd H p o = H' ∧ LB K S l H' ∧ Same H H' ∧ H' p = some o := ⟨_, rfl, L.new hp o, same_upd hp o, upd_same⟩
section
variable {P : Program} {w : World} {K : PySem.W.Frag} {mg : Str → Option Value} {base : Heap} {f : Addr} {fd : FuncData}
theorem ok__law_towered (F : FunD K "_law_towered" "_law_towered" (defArgs s__law_towered) (defBody s__law_towered) (defScope s__law_towered) [] [] (glAd "_law_towered" K) fd) (m : mg "_law_towered" = some (.ref (glAd "_law_towered" K))) (nb : Nm K mg) (c__law_next : Cal P w K mg base 1 "_law_next" (sp__law_next K) []) : Cal P w K mg base 2 "_law_towered" (sp__law_towered K) [] := by
  refine calD F m sc__law_towered (fun _ _ _ _ _ _ us hl => match us, hl with | [_, _], _ => rfl) len2 (fun cdv A outer s H vs Q E hr h => ⟨_, (pss_cut (ps_if (pt_cmpR op_eq (pe_c c__law_next hr (by decide) rfl (pa_cons (pv 0) (pa_cons pe_int pa_nil))) pe_int (nomark _))
    (pss_one (ps_for PassesOwn.never rfl (pi_range1 rfl nb.range (pa_cons (pe_c c__law_next hr (by decide) rfl (pa_cons (pv 0) (pa_cons pe_int pa_nil))) pa_nil)) (pg_name (i := 2) sc__law_towered.nd rfl (Or.inl rfl))
    (pss_cons (ps_set (i := 3) sc__law_towered.nd rfl (Or.inl rfl) (pe_c c__law_next hr (by decide) rfl (pa_cons (pv 0) (pa_cons pe_int pa_nil))))
    (pss_one (ps_if (pt_cmpR op_eq (pv 3) pe_int (nomark _))
    (pss_one (ps_set (i := 1) sc__law_towered.nd rfl (Or.inl rfl) (pe_tup (pa_cons pe_str (pa_cons (pe_tup (pa_cons (pe_tup (pa_cons (pe_tup (pa_cons pe_int pa_nil)) (pa_cons (pv 1) pa_nil))) pa_nil)) pa_nil)))))
    (pss_one (ps_if (pt_cmpR op_eq (pv 3) pe_int (nomark _))
    (pss_one (ps_set (i := 1) sc__law_towered.nd rfl (Or.inl rfl) (pe_tup (pa_cons pe_str (pa_cons (pe_tup (pa_cons (pv 1) (pa_cons (pe_tup (pa_cons pe_str (pa_cons (pe_tup pa_nil) pa_nil))) pa_nil))) pa_nil)))))
    (pss_one (ps_set (i := 1) sc__law_towered.nd rfl (Or.inl rfl) (pe_tup (pa_cons pe_str (pa_cons (pe_tup (pa_cons (pv 1) pa_nil)) pa_nil))))))))))))
    pss_nil)
    (pss_one (ps_ret (pv 1)))), ?_⟩)
  obtain ⟨_, v, rfl, S, l, t, rfl, L, tp, ok, h⟩ := h
  walk_at "rd"
  refine r_cut (fun σ H' => LB K S l H' ∧ Keep S H H' ∧ ∃ (v : V) (t' : Vb) (n : Nat) (y2 y3 : Option V), n ≤ 24 ∧ t'.ok n ∧ bsz t' ≤ bsz t + 40 ∧ Tp H' v t'.dat ∧ σ = [some (.ref S.a), some v, y2, y3]) ?_ ?_
  · walk_at "rd"
    refine b_next L (by decide) fun r1 H1 a1 b1 L1 k1 => ?_
    have tp := Tp.tk (keep_tk L.ls k1) _ _ tp
    walk_at "rd"
    refine r_ite (fun c => ?_) (fun c => ?_)
    · walk_at "rd"
      refine b_next L1 (by decide) fun r2 H2 a2 b2 L2 k2 => ?_
      have tp := Tp.tk (keep_tk L1.ls k2) _ _ tp
      have k2 := k1.trans k2
      walk_at "rd"
      refine r_turns (by omega) (by omega) (fun i σ H' => LB K S l H' ∧ Keep S H H' ∧ ∃ (v : V) (t' : Vb) (y2 y3 : Option V), i ≤ 20 ∧ t'.ok (4 + i) ∧ bsz t' ≤ bsz t + 2 * i ∧ Tp H' v t'.dat ∧ σ = [some (.ref S.a), some v, y2, y3]) ⟨L2, k2, v, t, _, _, Nat.zero_le _, ok, Nat.le_refl _, tp, rfl⟩ ?_ ?_
      · rintro i σ H3 hi ⟨L3, k3, v, t', y2, y3, hi2, ok3, sz3, tp3, rfl⟩
        walk_at "rd"
        refine b_next L3 (by decide) fun r4 H4 a4 b4 L4 k4 => ?_
        have tp4 := Tp.tk (keep_tk L3.ls k4) _ _ tp3
        have k4 := k3.trans k4
        walk_at "rd"
        refine r_ite (fun c => ?_) (fun c => ?_)
        · walk_at "rd"
          refine ⟨by show 1 ≤ sizeLine; decide, fun p5 n5 => ?_⟩
          obtain ⟨H5, e, L5, s5, g5⟩ := new_b (o := .tup [.int 97]) L4 n5
          rw [e]
          clear e
          walk_at "rd"
          refine ⟨by show 2 ≤ sizeLine; decide, fun p6 n6 => ?_⟩
          obtain ⟨H6, e, L6, s6, g6⟩ := new_b (o := .tup [.ref p5, v]) L5 n6
          rw [e]
          clear e
          walk_at "rd"
          refine ⟨by show 1 ≤ sizeLine; decide, fun p7 n7 => ?_⟩
          obtain ⟨H7, e, L7, s7, g7⟩ := new_b (o := .tup [.ref p6]) L6 n7
          rw [e]
          clear e
          walk_at "rd"
          refine ⟨by show 2 ≤ sizeLine; decide, fun p8 n8 => ?_⟩
          obtain ⟨H8, e, L8, s8, g8⟩ := new_b (o := .tup [.str "map", .ref p7]) L7 n8
          rw [e]
          clear e
          walk_at "rd"
          have sa := (s5.trans s6).trans (s7.trans s8)
          have tpv : Tp H8 v t'.dat := Tp.tk (Same.tk sa) _ _ tp4
          refine ⟨L8, k4.trans (Keep.of sa), .ref p8, .mp [([97], t')], _, _, by omega, ⟨by show 1 ≤ 49; decide, fun e he => ?_, ok3, trivial⟩, by show 1 + (1 + bsz t' + 0) ≤ _; omega, .tup g8 (.cons (.str _) (.cons (.tup (s8 _ _ g7) (.cons (.tup ((s7.trans s8) _ _ g6) (.cons (tp_kd ((s6.trans (s7.trans s8)) _ _ g5)) (.cons tpv .nil))) .nil)) .nil)), rfl⟩
          rw [List.mem_singleton.mp he]
          exact ⟨by show 1 ≤ 260; decide, fun p hp => by
            rw [List.mem_singleton.mp hp]
            decide⟩
        walk_at "rd"
        refine r_ite (fun c => ?_) (fun c => ?_)
        · walk_at "rd"
          refine ⟨Nat.zero_le _, fun p5 n5 => ?_⟩
          obtain ⟨H5, e, L5, s5, g5⟩ := new_b (o := .tup []) L4 n5
          rw [e]
          clear e
          walk_at "rd"
          refine ⟨by show 2 ≤ sizeLine; decide, fun p6 n6 => ?_⟩
          obtain ⟨H6, e, L6, s6, g6⟩ := new_b (o := .tup [.str "list", .ref p5]) L5 n6
          rw [e]
          clear e
          walk_at "rd"
          refine ⟨by show 2 ≤ sizeLine; decide, fun p7 n7 => ?_⟩
          obtain ⟨H7, e, L7, s7, g7⟩ := new_b (o := .tup [v, .ref p6]) L6 n7
          rw [e]
          clear e
          walk_at "rd"
          refine ⟨by show 2 ≤ sizeLine; decide, fun p8 n8 => ?_⟩
          obtain ⟨H8, e, L8, s8, g8⟩ := new_b (o := .tup [.str "list", .ref p7]) L7 n8
          rw [e]
          clear e
          walk_at "rd"
          have sa := (s5.trans s6).trans (s7.trans s8)
          have tpv : Tp H8 v t'.dat := Tp.tk (Same.tk sa) _ _ tp4
          have okE : (Vb.ls []).ok (4 + i) := by
            rw [Nat.add_comm]
            exact ⟨Nat.zero_le _, trivial⟩
          exact ⟨L8, k4.trans (Keep.of sa), .ref p8, .ls [t', .ls []], _, _, by omega, ⟨by show 2 ≤ 49; decide, ok3, okE, trivial⟩, by show 1 + (bsz t' + (1 + 0 + 0)) ≤ _; omega, .tup g8 (.cons (.str _) (.cons (.tup (s8 _ _ g7) (.cons tpv (.cons (.tup ((s7.trans s8) _ _ g6) (.cons (.str _) (.cons (.tup ((s6.trans (s7.trans s8)) _ _ g5) .nil) .nil))) .nil))) .nil)), rfl⟩
        · walk_at "rd"
          refine ⟨by show 1 ≤ sizeLine; decide, fun p7 n7 => ?_⟩
          obtain ⟨H7, e, L7, s7, g7⟩ := new_b (o := .tup [v]) L4 n7
          rw [e]
          clear e
          walk_at "rd"
          refine ⟨by show 2 ≤ sizeLine; decide, fun p8 n8 => ?_⟩
          obtain ⟨H8, e, L8, s8, g8⟩ := new_b (o := .tup [.str "list", .ref p7]) L7 n8
          rw [e]
          clear e
          walk_at "rd"
          have sa := s7.trans s8
          have tpv : Tp H8 v t'.dat := Tp.tk (Same.tk sa) _ _ tp4
          exact ⟨L8, k4.trans (Keep.of sa), .ref p8, .ls [t'], _, _, by omega, ⟨by show 1 ≤ 49; decide, ok3, trivial⟩, by show 1 + (bsz t' + 0) ≤ _; omega, .tup g8 (.cons (.str _) (.cons (.tup (s8 _ _ g7) (.cons tpv .nil)) .nil)), rfl⟩
      · rintro σ H3 ⟨L3, k3, v, t', y2, y3, hi2, ok3, sz3, tp3, rfl⟩
        walk_at "rd"
        exact ⟨L3, k3, v, t', _, _, _, by omega, ok3, by omega, tp3, rfl⟩
    · walk_at "rd"
      exact ⟨L1, k1, v, t, 4, _, _, by decide, ok, by omega, tp, rfl⟩
  · rintro σ H3 ⟨L3, k3, v, t', n, y2, y3, hn, ok3, sz3, tp3, rfl⟩
    walk_at "rd"
    exact h v t' n _ hn ok3 sz3 tp3 L3 k3
end

/-! ### the law's own writing -/
abbrev s__law_ascii : Stmt := (top 58)
theorem sc__law_ascii : FnScope ["text", "char"] ["text"] (defScope s__law_ascii) := ⟨rfl, rfl, rfl, by decide +kernel, rfl, by decide +kernel, by decide +kernel⟩
abbrev s__law_utf8 : Stmt := (top 59)
theorem sc__law_utf8 : FnScope ["points", "octets", "point"] ["points"] (defScope s__law_utf8) := ⟨rfl, rfl, rfl, by decide +kernel, rfl, by decide +kernel, by decide +kernel⟩
abbrev s__law_length : Stmt := (top 60)
theorem sc__law_length : FnScope ["many"] ["many"] (defScope s__law_length) := ⟨rfl, rfl, rfl, by decide +kernel, rfl, by decide +kernel, by decide +kernel⟩
abbrev s__law_integer : Stmt := (top 61)
theorem sc__law_integer : FnScope ["count", "octets", "rest", "k"] ["count"] (defScope s__law_integer) := ⟨rfl, rfl, rfl, by decide +kernel, rfl, by decide +kernel, by decide +kernel⟩
abbrev s__law_element : Stmt := (top 62)
theorem sc__law_element : FnScope ["tag", "contents"] ["tag", "contents"] (defScope s__law_element) := ⟨rfl, rfl, rfl, by decide +kernel, rfl, by decide +kernel, by decide +kernel⟩
/-- a new list with these numbers, all else kept -/
def Out (H : Hp) (xs : List Int) (Q : VK) : Prop := ∀ (p : Addr) (H' : Hp), H p = none → H' p = some (.lst (xs.map V.int)) → Same H H' → Q (.ref p) H'
def sp__law_ascii (K : Frg) : Sp := sp1 fun a H Q _ => ∃ x : List Nat, a = .str (S x) ∧ x.length ≤ 10000 ∧ Out H (asc x) Q
def sp__law_utf8 (K : Frg) : Sp := sp1 fun a H Q _ => ∃ (p : Addr) (ps : List Int), a = .ref p ∧ H p = some (.tup (ps.map V.int)) ∧ Pts ps ∧ Out H (utf8 ps) Q
def sp__law_length (K : Frg) : Sp := sp1 fun a H Q _ => ∃ n : Nat, a = .int (n : Int) ∧ n < 16777216 ∧ Out H (lenO n) Q
def sp__law_integer (K : Frg) : Sp := sp1 fun a H Q _ => ∃ z : Int, a = .int z ∧ z.natAbs < 128 * 256 ^ 1000 ∧ Out H (intO z) Q
def sp__law_element (K : Frg) : Sp := sp2 fun a b H Q _ => ∃ (t : Int) (p : Addr) (c : List Int), a = .int t ∧ b = .ref p ∧ H p = some (.lst (c.map V.int)) ∧ c.length ≤ 16000000 ∧ Out H (elem t c) Q
theorem out_new {H : Hp} {xs : List Int} {Q : VK} (h : Out H xs Q) {p : Addr} (hp : H p = none) : Q (.ref p) (upd H p (.lst (xs.map V.int))) := h p _ hp upd_same (same_upd hp _)
theorem Out.same {H H1 : Hp} {xs : List Int} {Q : VK} (h : Out H xs Q) (s : Same H H1) : Out H1 xs Q := fun p H' n g s' => h p H' (s.free n) g (s.trans s')
/-- list + list -/
theorem r_catB {a b : Addr} {xs ys : List Int} {H : Hp} {Q : VK} (h1 : H a = some (.lst (xs.map V.int))) (h2 : H b = some (.lst (ys.map V.int))) (hl : xs.length + ys.length ≤ 16700000) (h : ∀ p H', H p = none → H' p = some (.lst ((xs ++ ys).map V.int)) → Same H H' → Q (.ref p) H') : rCat (.ref a) (.ref b) H Q :=
  ⟨a, b, _, _, rfl, rfl, h1, h2, Nat.le_trans (by rw [List.length_map, List.length_map]; exact hl) (by decide : 16700000 ≤ sizeLine), fun p hp => h p _ hp (by rw [upd_same, cat_ints]) (same_upd hp _)⟩
/-- a list of something for each sign of a text -/
theorem r_lcS {σ : St} {H : Hp} {Q : VK} {k : Nat} {g : TG} {te : TE} {vs : List Nat} {x : Str} (e : σ[k]? = some (some (.str x))) (Pv : Addr → Nat → Hp → Prop) (h0 : ∀ D, H D = none → Pv D 0 (upd H D (.lst [])))
    (hs : ∀ (D : Addr) (i c : Nat) (H' : Hp), H D = none → x.cps[i]? = some c → Pv D i H' → g (.str ⟨#[c]⟩) (wipe σ vs) H' fun σ2 H2 => wipe σ2 vs = wipe σ vs ∧ te σ2 H2 fun y H4 => ∃ acc, H4 D = some (.lst acc) ∧ acc.length < sizeLine ∧ Pv D (i + 1) (upd H4 D (.lst (acc ++ [y]))))
    (hd : ∀ (D : Addr) (H' : Hp), H D = none → Pv D x.cps.size H' → Q (.ref D) H') : tLc (iStr (tVar k)) g tYes te vs σ H Q := by
  refine ⟨_, e, x, rfl, fun D hD => ⟨fun i m H' => m + i = x.cps.size ∧ Pv D i H', ⟨x.cps.size, rfl, h0 D hD⟩, fun i m H' hW => ?_⟩⟩
  obtain ⟨hm, p⟩ := hW
  by_cases c : i < x.cps.size
  · refine .inr ⟨c, fun H' => Pv D (i + 1) H', fun H' q => ⟨m - 1, by omega, by omega, q⟩, ?_⟩
    rintro v _ ⟨rfl, cc, hc, rfl⟩
    exact hs D i cc _ hD hc p
  · have : i = x.cps.size := by omega
    subst this
    exact .inl ⟨Nat.le_refl _, hd D H' hD p⟩
theorem same_but {H H1 H2 : Hp} {q : Addr} (s : Same H H1) (nq : H q = none) (k : ∀ b, b ≠ q → H2 b = H1 b) : Same H H2 := fun b u z => by
  rw [k b (fun e => by rw [e, nq] at z; cases z)]
  exact s b u z
theorem S_at (x : List Nat) (i : Nat) : (S x).cps[i]? = x[i]? := by simp [S]
theorem S_size (x : List Nat) : (S x).cps.size = x.length := by simp [S]
theorem small_asc {x : List Nat} (hx : x.length ≤ 10000) (i : Nat) : ((asc (x.take i)).map V.int).length < sizeLine := by
  rw [List.length_map, asc_len]
  exact Nat.lt_of_le_of_lt (Nat.le_trans (List.length_take_le' _ _) hx) (by decide)
theorem fits_y (z : Int) (i : Nat) : fitsI z (i + 1) = true ↔ (-128 ≤ z / 256 ^ i ∧ z / 256 ^ i < 128) := by
  have hp : (0 : Int) < 256 ^ i := Int.pow_pos (by decide)
  unfold fitsI
  rw [Nat.add_sub_cancel, Bool.and_eq_true, decide_eq_true_eq, decide_eq_true_eq, Int.le_ediv_iff_mul_le hp, Int.ediv_lt_iff_lt_mul hp]
  rw [Int.neg_mul]
theorem stop_at {z : Int} {i : Nat} (hh : i < howM z 1300 1) (b1 : -128 ≤ z / 256 ^ i) (b2 : z / 256 ^ i < 128) : howM z 1300 1 = i + 1 := by
  have hf := (fits_y z i).mpr ⟨b1, b2⟩
  by_cases c : howM z 1300 1 = i + 1
  · exact c
  · have := howM_least z 1300 1 (i + 1) (by omega) (by omega)
    rw [this] at hf
    cases hf
theorem go_on {z : Int} {i : Nat} (hh : i < howM z 1300 1) (b : ¬ (-128 ≤ z / 256 ^ i ∧ z / 256 ^ i < 128)) (hb : z.natAbs < 128 * 256 ^ 1000) : i + 1 < howM z 1300 1 := by
  have hf := (howM_fits z 1300 1 1001 (by decide) (by decide) (fits_bound hb)).2
  by_cases c : howM z 1300 1 = i + 1
  · rw [c] at hf
    exact absurd ((fits_y z i).mp hf) b
  · omega
theorem new_o {H : Hp} {p : Addr} {o : HO} (hp : H p = none) : ∃ H', upd H p o = H' ∧ Same H H' ∧ H' p = some o := ⟨_, rfl, same_upd hp o, upd_same⟩
section
variable {P : Program} {w : World} {K : PySem.W.Frag} {mg : Str → Option Value} {base : Heap} {f : Addr} {fd : FuncData}
theorem ok__law_ascii (F : FunD K "_law_ascii" "_law_ascii" (defArgs s__law_ascii) (defBody s__law_ascii) (defScope s__law_ascii) [] [] (glAd "_law_ascii" K) fd) (m : mg "_law_ascii" = some (.ref (glAd "_law_ascii" K))) (nb : Nm K mg) : Cal P w K mg base 1 "_law_ascii" (sp__law_ascii K) [] := by
  refine calD F m sc__law_ascii (fun _ _ _ _ _ _ us hl => match us, hl with | [_], _ => rfl) len1 (fun cdv A outer s H vs Q E hr h => ⟨_, (pss_one (ps_ret (pe_lc (own := [("char", 1)]) (g := gName 1) (tt := tYes) rfl sc__law_ascii.nd (pi_str (pv 0)) (blkOk_by (N := ["text", "char"]) (sc := defScope s__law_ascii) (by decide +kernel)) (fun _ _ _ _ _ => pg_name (i := 1) sc__law_ascii.nd rfl (Or.inl rfl)) (fun _ _ _ _ _ => pts_nil) (fun _ _ _ _ _ => (pe_callB call_ord (by rfl) nb.ord (by decide +kernel) (pa_cons (pv 1) pa_nil)))))), ?_⟩)
  obtain ⟨_, rfl, x, rfl, hx, h⟩ := h
  walk_at "rd"
  refine r_lcS (x := S x) rfl (fun D i H' => H' D = some (.lst ((asc (x.take i)).map V.int)) ∧ ∀ b u, b ≠ D → H b = some u → H' b = some u) (fun D hD => ⟨upd_same, fun b u n z => (upd_ne n).trans z⟩) ?_ ?_
  · rintro D i c H' hD hc ⟨g1, g2⟩
    walk_at "rd"
    refine ⟨rfl, ?_⟩
    walk_at "rd"
    have hx2 : x[i]? = some c := by
      have := hc
      rw [S_at] at this
      exact this
    refine ⟨_, rfl, rfl, _, g1, small_asc hx i, ?_, fun b u n z => (upd_ne n).trans (g2 b u n z)⟩
    rw [upd_same, List.take_succ, hx2]
    unfold asc
    rw [List.map_append, List.map_append]
    rfl
  · rintro D H' hD ⟨g1, g2⟩
    have e : x.take (S x).cps.size = x := List.take_of_length_le (Nat.le_of_eq (S_size x).symm)
    rw [e] at g1
    exact h D H' hD g1 fun b u z => g2 b u (fun e => by rw [e, hD] at z; cases z) z
theorem ok__law_utf8 (F : FunD K "_law_utf8" "_law_utf8" (defArgs s__law_utf8) (defBody s__law_utf8) (defScope s__law_utf8) [] [] (glAd "_law_utf8" K) fd) (m : mg "_law_utf8" = some (.ref (glAd "_law_utf8" K))) (nb : Nm K mg) : Cal P w K mg base 1 "_law_utf8" (sp__law_utf8 K) [] := by
  refine calD F m sc__law_utf8 (fun _ _ _ _ _ _ us hl => match us, hl with | [_], _ => rfl) len1 (fun cdv A outer s H vs Q E hr h => ⟨_, (pss_cons (ps_set (i := 1) sc__law_utf8.nd rfl (Or.inl rfl) (pe_lst pa_nil))
    (pss_cons (ps_for PassesOwn.never rfl (pi_tup (pv 0)) (pg_name (i := 2) sc__law_utf8.nd rfl (Or.inl rfl))
    (pss_one (ps_if (pt_cmpR op_lt (pv 2) pe_int (nomark _))
    (pss_one (ps_expr (pe_bm PySem.F.plainAttrs_list PySem.F.slot_list_append PySem.F.type_list_append mt_append (pv 1) (pa_cons (pv 2) pa_nil))))
    (pss_one (ps_if (pt_cmpR op_lt (pv 2) pe_int (nomark _))
    (pss_one (ps_set (i := 1) sc__law_utf8.nd rfl (Or.inl rfl) (pe_op op_cat (pv 1) (pe_lst (pa_cons (pe_op op_add pe_int (pe_op op_fdiv (pv 2) pe_int)) (pa_cons (pe_op op_add pe_int (pe_op op_mod (pv 2) pe_int)) pa_nil))))))
    (pss_one (ps_if (pt_cmpR op_lt (pv 2) pe_int (nomark _))
    (pss_one (ps_set (i := 1) sc__law_utf8.nd rfl (Or.inl rfl) (pe_op op_cat (pv 1) (pe_lst (pa_cons (pe_op op_add pe_int (pe_op op_fdiv (pv 2) pe_int)) (pa_cons (pe_op op_add pe_int (pe_op op_mod (pe_op op_fdiv (pv 2) pe_int) pe_int)) (pa_cons (pe_op op_add pe_int (pe_op op_mod (pv 2) pe_int)) pa_nil)))))))
    (pss_one (ps_set (i := 1) sc__law_utf8.nd rfl (Or.inl rfl) (pe_op op_cat (pv 1) (pe_lst (pa_cons (pe_op op_add pe_int (pe_op op_fdiv (pv 2) pe_int)) (pa_cons (pe_op op_add pe_int (pe_op op_mod (pe_op op_fdiv (pv 2) pe_int) pe_int)) (pa_cons (pe_op op_add pe_int (pe_op op_mod (pe_op op_fdiv (pv 2) pe_int) pe_int)) (pa_cons (pe_op op_add pe_int (pe_op op_mod (pv 2) pe_int)) pa_nil)))))))))))))))
    (pss_one (ps_ret (pv 1))))), ?_⟩)
  obtain ⟨_, rfl, a, ps, rfl, ha, hp, h⟩ := h
  walk_at "rd"
  refine ⟨Nat.zero_le _, fun q nq => ?_⟩
  obtain ⟨H1, e, s1, g1⟩ := new_o (o := .lst []) nq
  rw [e]
  clear e
  walk_at "rd"
  refine ⟨a, rfl, ⟨_, SqT.of (s1 _ _ ha)⟩, ?_⟩
  refine r_eachT (xs := ps.map V.int) (fun i σ H' => Same H H' ∧ ∃ (q : Addr) (y : Option V), H q = none ∧ H' q = some (.lst ((utf8 (ps.take i)).map V.int)) ∧ σ = [some (.ref a), some (.ref q), y]) ⟨s1, q, none, nq, g1, rfl⟩ (fun i σ H' p => SqT.of (p.1 _ _ ha)) ?_ ?_
  · rintro i x σ H2 hx ⟨s2, q, y, nq, g2, rfl⟩
    obtain ⟨c, hc, rfl, et⟩ := ints_get hx
    have hi : i < ps.length := (List.getElem?_eq_some_iff.mp hc).1
    have hl : (utf8 (ps.take i)).length ≤ 1040 := by
      have h1 := utf8_len (ps.take i)
      have h2 : (ps.take i).length ≤ ps.length := List.length_take_le' _ _
      have h3 := hp.1
      omega
    have step : ∀ r : List Int, enc1 c = r → ∀ (q2 : Addr) (H3 : Hp), H2 q2 = none → H3 q2 = some (.lst ((utf8 (ps.take i) ++ r).map V.int)) → Same H2 H3 → Same H H3 ∧ ∃ (q : Addr) (y : Option V), H q = none ∧ H3 q = some (.lst ((utf8 (ps.take (i + 1))).map V.int)) ∧ [some (V.ref a), some (.ref q2), some (.int c)] = [some (.ref a), some (.ref q), y] := fun r er q2 H3 n2 g3 s3 => ⟨s2.trans s3, q2, _, s2.free n2, by rw [g3, et]; unfold utf8; rw [encs_snoc, er], rfl⟩
    walk_at "rd"
    refine r_ite (fun c1 => ?_) (fun c1 => ?_)
    · walk_at "rd"
      refine ⟨tyL g2, ?_⟩
      walk_at "rd"
      refine r_appK g2 (small4k (by rw [List.length_map]; omega)) fun H5 hL5 f5 => ?_
      refine ⟨same_but s2 nq f5, q, _, nq, ?_, rfl⟩
      rw [hL5, map_snoc, et]
      unfold utf8
      rw [encs_snoc, enc_low c1]
    walk_at "rd"
    refine r_ite (fun c2 => ?_) (fun c2 => ?_)
    · have er : enc1 c = [192 + c / 64, 128 + c % 64] := (if_neg c1).trans (if_pos c2)
      walk_at "rd"
      refine ⟨by show 2 ≤ sizeLine; decide, fun q2 n2 => ?_⟩
      obtain ⟨H3, e, s3, g3⟩ := new_o (o := .lst ([192 + c / 64, 128 + c % 64].map V.int)) n2
      rw [show (HO.lst [V.int (192 + c / 64), V.int (128 + c % 64)]) = .lst ([192 + c / 64, 128 + c % 64].map V.int) from rfl, e]
      clear e
      walk_at "rd"
      refine r_catB (s3 _ _ g2) g3 (by show _ + 2 ≤ _; omega) fun p3 H4 n4 g4 s4 => ?_
      exact step _ er p3 H4 (s3.free n4) g4 (s3.trans s4)
    walk_at "rd"
    refine r_ite (fun c3 => ?_) (fun c3 => ?_)
    · have er : enc1 c = [224 + c / 4096, 128 + c / 64 % 64, 128 + c % 64] := (if_neg c1).trans ((if_neg c2).trans (if_pos c3))
      walk_at "rd"
      refine ⟨by show 3 ≤ sizeLine; decide, fun q2 n2 => ?_⟩
      obtain ⟨H3, e, s3, g3⟩ := new_o (o := .lst ([224 + c / 4096, 128 + c / 64 % 64, 128 + c % 64].map V.int)) n2
      rw [show (HO.lst [V.int (224 + c / 4096), V.int (128 + c / 64 % 64), V.int (128 + c % 64)]) = .lst ([224 + c / 4096, 128 + c / 64 % 64, 128 + c % 64].map V.int) from rfl, e]
      clear e
      walk_at "rd"
      refine r_catB (s3 _ _ g2) g3 (by show _ + 3 ≤ _; omega) fun p3 H4 n4 g4 s4 => ?_
      exact step _ er p3 H4 (s3.free n4) g4 (s3.trans s4)
    · have er : enc1 c = [240 + c / 262144, 128 + c / 4096 % 64, 128 + c / 64 % 64, 128 + c % 64] := (if_neg c1).trans ((if_neg c2).trans (if_neg c3))
      walk_at "rd"
      refine ⟨by show 4 ≤ sizeLine; decide, fun q2 n2 => ?_⟩
      obtain ⟨H3, e, s3, g3⟩ := new_o (o := .lst ([240 + c / 262144, 128 + c / 4096 % 64, 128 + c / 64 % 64, 128 + c % 64].map V.int)) n2
      rw [show (HO.lst [V.int (240 + c / 262144), V.int (128 + c / 4096 % 64), V.int (128 + c / 64 % 64), V.int (128 + c % 64)]) = .lst ([240 + c / 262144, 128 + c / 4096 % 64, 128 + c / 64 % 64, 128 + c % 64].map V.int) from rfl, e]
      clear e
      walk_at "rd"
      refine r_catB (s3 _ _ g2) g3 (by show _ + 4 ≤ _; omega) fun p3 H4 n4 g4 s4 => ?_
      exact step _ er p3 H4 (s3.free n4) g4 (s3.trans s4)
  · rintro σ H2 ⟨s2, q, y, nq, g2, rfl⟩
    rw [List.length_map, List.take_length] at g2
    walk_at "rd"
    exact h q H2 nq g2 s2
theorem ok__law_length (F : FunD K "_law_length" "_law_length" (defArgs s__law_length) (defBody s__law_length) (defScope s__law_length) [] [] (glAd "_law_length" K) fd) (m : mg "_law_length" = some (.ref (glAd "_law_length" K))) (nb : Nm K mg) : Cal P w K mg base 1 "_law_length" (sp__law_length K) [] := by
  refine calD F m sc__law_length (fun _ _ _ _ _ _ us hl => match us, hl with | [_], _ => rfl) len1 (fun cdv A outer s H vs Q E hr h => ⟨_, (pss_cons (ps_if (pt_cmpR op_lt (pv 0) pe_int (nomark _))
    (pss_one (ps_ret (pe_lst (pa_cons (pv 0) pa_nil))))
    pss_nil)
    (pss_cons (ps_if (pt_cmpR op_lt (pv 0) pe_int (nomark _))
    (pss_one (ps_ret (pe_lst (pa_cons pe_int (pa_cons (pv 0) pa_nil)))))
    pss_nil)
    (pss_cons (ps_if (pt_cmpR op_lt (pv 0) pe_int (nomark _))
    (pss_one (ps_ret (pe_lst (pa_cons pe_int (pa_cons (pe_op op_fdiv (pv 0) pe_int) (pa_cons (pe_op op_mod (pv 0) pe_int) pa_nil))))))
    pss_nil)
    (pss_one (ps_ret (pe_lst (pa_cons pe_int (pa_cons (pe_op op_fdiv (pv 0) pe_int) (pa_cons (pe_op op_mod (pe_op op_fdiv (pv 0) pe_int) pe_int) (pa_cons (pe_op op_mod (pv 0) pe_int) pa_nil)))))))))), ?_⟩)
  obtain ⟨_, rfl, n, rfl, hn, h⟩ := h
  have e1 : (n : Int) < 128 → lenO n = [(n : Int)] := fun c => if_pos (by omega)
  have e2 : ¬ (n : Int) < 128 → (n : Int) < 256 → lenO n = [129, (n : Int)] := fun c1 c2 => (if_neg (by omega)).trans (if_pos (by omega))
  have e3 : ¬ (n : Int) < 128 → ¬ (n : Int) < 256 → (n : Int) < 65536 → lenO n = [130, (n : Int) / 256, (n : Int) % 256] := fun c1 c2 c3 => (if_neg (by omega)).trans ((if_neg (by omega)).trans (if_pos (by omega)))
  have e4 : ¬ (n : Int) < 128 → ¬ (n : Int) < 256 → ¬ (n : Int) < 65536 → lenO n = [131, (n : Int) / 65536, (n : Int) / 256 % 256, (n : Int) % 256] := fun c1 c2 c3 => (if_neg (by omega)).trans ((if_neg (by omega)).trans (if_neg (by omega)))
  clear hn
  generalize (n : Int) = z at e1 e2 e3 e4 ⊢
  walk_at "rd"
  refine r_ite (fun c => ?_) (fun c => ?_)
  · have e := e1 c
    rw [e] at h
    walk_at "rd"
    exact ⟨by show 1 ≤ sizeLine; decide, fun p hp => out_new h hp⟩
  walk_at "rd"
  refine r_ite (fun c2 => ?_) (fun c2 => ?_)
  · have e := e2 c c2
    rw [e] at h
    walk_at "rd"
    exact ⟨by show 2 ≤ sizeLine; decide, fun p hp => out_new h hp⟩
  walk_at "rd"
  refine r_ite (fun c3 => ?_) (fun c3 => ?_)
  · have e := e3 c c2 c3
    rw [e] at h
    walk_at "rd"
    exact ⟨by show 3 ≤ sizeLine; decide, fun p hp => out_new h hp⟩
  have e := e4 c c2 c3
  rw [e] at h
  walk_at "rd"
  exact ⟨by show 4 ≤ sizeLine; decide, fun p hp => out_new h hp⟩
theorem ok__law_integer (F : FunD K "_law_integer" "_law_integer" (defArgs s__law_integer) (defBody s__law_integer) (defScope s__law_integer) [] [] (glAd "_law_integer" K) fd) (m : mg "_law_integer" = some (.ref (glAd "_law_integer" K))) (nb : Nm K mg) : Cal P w K mg base 1 "_law_integer" (sp__law_integer K) [] := by
  refine calD F m sc__law_integer (fun _ _ _ _ _ _ us hl => match us, hl with | [_], _ => rfl) len1 (fun cdv A outer s H vs Q E hr h => ⟨_, (pss_cons (ps_set (i := 1) sc__law_integer.nd rfl (Or.inl rfl) (pe_lst pa_nil))
    (pss_cons (ps_set (i := 2) sc__law_integer.nd rfl (Or.inl rfl) (pv 0))
    (pss_cons (ps_for PassesOwn.never rfl (pi_range1 rfl nb.range (pa_cons pe_int pa_nil)) (pg_name (i := 3) sc__law_integer.nd rfl (Or.inl rfl))
    (pss_cons (ps_set (i := 1) sc__law_integer.nd rfl (Or.inl rfl) (pe_op op_cat (pe_lst (pa_cons (pe_op op_mod (pe_callTy call_int1 (by rfl) nb.int (by decide +kernel) (pa_cons (pv 2) pa_nil)) pe_int) pa_nil)) (pv 1)))
    (pss_cons (ps_set (i := 2) sc__law_integer.nd rfl (Or.inl rfl) (pe_op op_fdiv (pv 2) pe_int))
    (pss_one (ps_if (PW.pt (pw_or (PW.pt (pw_and (pt_cmpR op_eq (pv 2) pe_int (nomark _)) (pw_and1 (pt_cmpR op_lt (pe_ix ix_list (pv 1) pe_int (fun _ _ => rfl)) pe_int (nomark _))))) (pw_or1 (PW.pt (pw_and (pt_cmpR op_eq (pv 2) (pe_un un_neg pe_int) (nomark _)) (pw_and1 (pt_cmpR op_gt (pe_ix ix_list (pv 1) pe_int (fun _ _ => rfl)) pe_int (nomark _))))))))
    (pss_one (ps_ret (pv 1)))
    pss_nil)))))
    (pss_one (ps_ret (pv 1)))))), ?_⟩)
  obtain ⟨_, rfl, z, rfl, hz, h⟩ := h
  walk_at "rd"
  refine ⟨Nat.zero_le _, fun q nq => ?_⟩
  obtain ⟨H1, e, s1, g1⟩ := new_o (o := .lst []) nq
  rw [e]
  clear e
  walk_at "rd"
  refine r_turns (by decide) (by decide) (fun i σ H' => Same H H' ∧ ∃ (q : Addr) (y : Option V), H q = none ∧ i < howM z 1300 1 ∧ H' q = some (.lst ((octs z i).map V.int)) ∧ σ = [some (.int z), some (.ref q), some (.int (z / 256 ^ i)), y]) ⟨s1, q, none, nq, Nat.lt_of_lt_of_le Nat.zero_lt_one (howM_le z 1300 1).1, g1, by rw [Int.pow_zero, Int.ediv_one]; rfl⟩ ?_ ?_
  · rintro i σ H2 hi ⟨s2, q, y, nq, hh, g2, rfl⟩
    walk_at "rd"
    refine ⟨by show 1 ≤ sizeLine; decide, fun q2 n2 => ?_⟩
    obtain ⟨H3, e, s3, g3⟩ := new_o (o := .lst ([z / 256 ^ i % 256].map V.int)) n2
    rw [show (HO.lst [V.int (z / 256 ^ i % 256)]) = .lst ([z / 256 ^ i % 256].map V.int) from rfl, e]
    clear e
    walk_at "rd"
    refine r_catB g3 (s3 _ _ g2) (by rw [octs_len]; show 1 + _ ≤ _; omega) fun p4 H4 n4 g4 s4 => ?_
    have n4 := (s2.trans s3).free n4
    have s4 := (s2.trans s3).trans s4
    have e256 : z / 256 ^ i / 256 = z / 256 ^ (i + 1) := by
      rw [Int.pow_succ, Int.ediv_ediv_of_nonneg (Int.pow_nonneg (by decide))]
    have stop : -128 ≤ z / 256 ^ i → z / 256 ^ i < 128 → Q (.ref p4) H4 := fun b1 b2 => by
      have := stop_at hh b1 b2
      have g4 : H4 p4 = some (.lst ((intO z).map V.int)) := by
        unfold intO
        rw [this]
        exact g4
      exact h p4 H4 n4 g4 s4
    have go : ¬ (-128 ≤ z / 256 ^ i ∧ z / 256 ^ i < 128) → Same H H4 ∧ ∃ (q : Addr) (y : Option V), H q = none ∧ i + 1 < howM z 1300 1 ∧ H4 q = some (.lst ((octs z (i + 1)).map V.int)) ∧ [some (.int z), some (.ref p4), some (.int (z / 256 ^ i / 256)), some (.int (i : Nat))] = [some (.int z), some (.ref q), some (.int (z / 256 ^ (i + 1))), y] := fun b => ⟨s4, p4, _, n4, go_on hh b hz, g4, by rw [e256]⟩
    clear hh
    generalize z / 256 ^ i = y at stop go g4 ⊢
    walk_at "rd"
    refine r_ite (fun c => ?_) (fun c => ?_)
    · walk_at "rd"
      refine r_ixL (SqL.of g4) (atI_nat (j := 0) rfl) ?_
      walk_at "rd"
      refine r_ite (fun c2 => ?_) (fun c2 => ?_)
      · walk_at "rd"
        exact stop (by omega) (by omega)
      · walk_at "rd"
        refine r_iteN (by omega) ?_
        walk_at "rd"
        exact go (by omega)
    · walk_at "rd"
      refine r_ite (fun c2 => ?_) (fun c2 => ?_)
      · walk_at "rd"
        refine r_ixL (SqL.of g4) (atI_nat (j := 0) rfl) ?_
        walk_at "rd"
        refine r_ite (fun c3 => ?_) (fun c3 => ?_)
        · walk_at "rd"
          exact stop (by omega) (by omega)
        · walk_at "rd"
          exact go (by omega)
      · walk_at "rd"
        exact go (by omega)
  · rintro σ H2 ⟨s2, q, y, nq, hh, g2, rfl⟩
    have hf := howM_fits z 1300 1 1001 (by decide) (by decide) (fits_bound hz)
    have hh : 1300 < howM z 1300 1 := hh
    omega
theorem ok__law_element (F : FunD K "_law_element" "_law_element" (defArgs s__law_element) (defBody s__law_element) (defScope s__law_element) [] [] (glAd "_law_element" K) fd) (m : mg "_law_element" = some (.ref (glAd "_law_element" K))) (nb : Nm K mg) (c__law_length : Cal P w K mg base 1 "_law_length" (sp__law_length K) []) : Cal P w K mg base 2 "_law_element" (sp__law_element K) [] := by
  refine calD F m sc__law_element (fun _ _ _ _ _ _ us hl => match us, hl with | [_, _], _ => rfl) len2 (fun cdv A outer s H vs Q E hr h => ⟨_, (pss_one (ps_ret (pe_op op_cat (pe_op op_cat (pe_lst (pa_cons (pv 0) pa_nil)) (pe_c c__law_length hr (by decide) rfl (pa_cons (pe_callB call_len_seq (by rfl) nb.len PySem.boot_len (pa_cons (pv 1) pa_nil)) pa_nil))) (pv 1)))), ?_⟩)
  obtain ⟨_, _, rfl, t, p, c, rfl, rfl, hp, hc, h⟩ := h
  have hl := lenO_len c.length
  walk_at "rd"
  refine ⟨by show 1 ≤ sizeLine; decide, fun q nq => ?_⟩
  obtain ⟨H1, e, s1, g1⟩ := new_o (o := .lst ([t].map V.int)) nq
  rw [show (HO.lst [V.int t]) = .lst ([t].map V.int) from rfl, e]
  clear e
  walk_at "rd"
  refine ⟨p, _, rfl, .inl (SqL.of (s1 _ _ hp)), ?_⟩
  rw [List.length_map]
  walk_at "rd"
  refine ⟨_, rfl, c.length, rfl, by omega, fun p2 H2 n2 g2 s2 => ?_⟩
  refine r_catB (s2 _ _ g1) g2 (by show 1 + _ ≤ _; omega) fun p3 H3 n3 g3 s3 => ?_
  walk_at "rd"
  refine r_catB g3 ((s1.trans s2).trans s3 _ _ hp) (by rw [List.length_append]; show 1 + _ + _ ≤ _; omega) fun p4 H4 n4 g4 s4 => ?_
  exact h p4 H4 (((s1.trans s2).trans s3).free n4) g4 (((s1.trans s2).trans s3).trans s4)
end

/-! ### sorted: lists of integers -/
section
open PyProof.Rows PySem.W PySem.Calls
/-- references to lists of these integers -/
def RowsAt (H : Hp) (xs : List V) (ks : List (List Int)) : Prop := ∃ as : List Addr, xs = as.map V.ref ∧ as.length = ks.length ∧ ∀ (i : Nat) (a : Addr) (k : List Int), as[i]? = some a → ks[i]? = some k → H a = some (.lst (k.map V.int))
def encL (k : List Int) : PyData := .list (k.map PyData.int)
def rSortedLL (K : PySem.W.Frag) : List V → Hp → VK → Prop := fun vs H Q => ∃ (a : Addr) (xs : List V) (ks : List (List Int)), vs = [V.ref a] ∧ SqL K H a xs ∧ RowsAt H xs ks ∧
  ∀ (p : Addr) (ys : List V), H p = none → RowsAt H ys (ks.mergeSort rowLe) → Q (.ref p) (upd H p (.lst ys))
def RowV (H : Hp) (v : Value) (k : List Int) : Prop := ∃ a, v = .ref a ∧ H a = some (.lst (k.map V.int))
theorem each_rows {H : Hp} : ∀ {its : List Value} {ks : List (List Int)}, EachIs (RowV H) its ks → ∃ as : List Addr, its = as.map Value.ref ∧ as.length = ks.length ∧ ∀ (i : Nat) (a : Addr) (k : List Int), as[i]? = some a → ks[i]? = some k → H a = some (.lst (k.map V.int))
  | _, _, .nil => ⟨[], rfl, rfl, fun i a k h => by simp at h⟩
  | _, _, .cons (a := v) (b := k) h t => by
    obtain ⟨a, rfl, ha⟩ := h
    obtain ⟨as, e1, e2, e3⟩ := each_rows t
    refine ⟨a :: as, by rw [e1]; rfl, congrArg (· + 1) e2, fun i b k' h1 h2 => ?_⟩
    cases i with
    | zero =>
      cases (show some a = some b from h1)
      cases (show some k = some k' from h2)
      exact ha
    | succ i => exact e3 i b k' (by simpa using h1) (by simpa using h2)
theorem rows_each {H : Hp} : ∀ {as : List Addr} {ks : List (List Int)}, as.length = ks.length → (∀ (i : Nat) (a : Addr) (k : List Int), as[i]? = some a → ks[i]? = some k → H a = some (.lst (k.map V.int))) → EachIs (RowV H) (as.map Value.ref) ks
  | [], [], _, _ => .nil
  | [], _ :: _, h, _ => by cases h
  | _ :: _, [], h, _ => by cases h
  | a :: as, k :: ks, h, e => .cons ⟨a, rfl, e 0 a k rfl rfl⟩ (rows_each (by simpa using h) fun i b k' h1 h2 => e (i + 1) b k' (by simpa using h1) (by simpa using h2))
theorem depth_encL (k : List Int) : (encL k).depth ≤ 1 := by
  have e := PySem.W.depth_ints k
  show PyData.depthAll (k.map PyData.int) + 1 ≤ 1
  rw [show PyData.depthAll (k.map PyData.int) = 0 from e]
  exact Nat.le_refl _
theorem le_rowLe : dataLe false encL = rowLe := dataLe_rows fun k => k
theorem cr_sortedLL (hu : X.A.units + 64 < cLine) : CallR X (.builtin "sorted") (rSortedLL X.K) := by
  intro pins s σ H vs us Q I r h
  obtain ⟨a, xs, ks, rfl, hs, ⟨as, rfl, hl, hr⟩, q⟩ := h
  obtain ⟨its, rv, hL, hz⟩ := I.list hs
  obtain ⟨u, rfl, ru⟩ := vals1 r
  obtain rfl : u = Value.ref a := ru
  have ei : its = as.map Value.ref := vals_refs (fun e : Addr => e) rv
  subst ei
  have ev := rows_each hl hr
  have er : EachIs (fun v b => ∃ as, Reads s.heap v (encL b) as) (as.map Value.ref) ks := ev.mono fun v k ⟨p, e, hp⟩ => by
    subst e
    exact Dp.reads I (encL k) (.ref p) (.ref p) (.lst (SqL.of hp) (dpa_ints k)) rfl
  refine sorted_data hL.isList ev er (AllAlike.of fun b b' => alike_ints b b') (Sortable.others fun b => ⟨(fun z => by cases z), (fun xs z => by cases z)⟩) (by rw [← hl]; rw [List.length_map] at hz; exact hz) (fun b _ => by
    have := depth_encL b
    show X.A.units + 2 + (encL b).depth < cLine
    omega) fun out ho eo => ?_
  rw [le_rowLe] at eo
  obtain ⟨zs, e1, e2, e3⟩ := each_rows eo
  subst e1
  have hn : H (s.heap.objs.size + 1) = none := I.hok.fresh (Nat.le_succ _)
  obtain ⟨n, hn'⟩ := sortedAll_at s.heap (as.map Value.ref) (zs.map Value.ref).toArray
  refine ⟨.ref (s.heap.objs.size + 1), upd H (s.heap.objs.size + 1) (.lst (zs.map V.ref)), I.laid (t' := s.toks) (fun b o e => sortedAll_old e) (Nat.le_succ _) ⟨?_, zs.map Value.ref, n, vals_refsB (fun e : Addr => e) zs, hn'⟩, rfl, q _ _ hn ⟨zs, rfl, e2, e3⟩⟩
  rw [List.length_map, e2, (List.mergeSort_perm ks rowLe).length_eq, ← hl]
  rw [List.length_map] at hz
  exact hz
end

abbrev s__law_leaf_written : Stmt := (top 63)
theorem sc__law_leaf_written : FnScope ["value"] ["value"] (defScope s__law_leaf_written) := ⟨rfl, rfl, rfl, by decide +kernel, rfl, by decide +kernel, by decide +kernel⟩
def sp__law_leaf_written (K : Frg) : Sp := sp1 fun a H Q _ => ∃ t : Vb, t.leaf ∧ Tp H a t.dat ∧ Out H (ber t) Q
theorem str_sdg : ∀ m : Int, Str.ofString (toString m) = S (sdg m)
  | .ofNat n => by
    have e : sdg (.ofNat n) = dg n := by
      unfold sdg sgn
      have c : ¬ Int.ofNat n < 0 := Int.not_lt.mpr (Int.natCast_nonneg n)
      rw [if_neg c]
      rfl
    rw [e]
    exact str_dg n
  | .negSucc n => by
    have e : sdg (.negSucc n) = [45] ++ dg (n + 1) := by
      unfold sdg sgn
      rw [if_pos (Int.negSucc_lt_zero n)]
      rfl
    rw [e]
    refine (S_tl _).symm.trans (congrArg S ?_)
    rw [PyProof.Rows.signs_ofString]
    show (("-" ++ Nat.repr (n + 1)).toList.map Char.toNat) = _
    rw [String.toList_append, List.map_append, Nat.toList_repr]
    rfl
theorem sdg_len {m : Int} {k : Nat} (h : m.natAbs < 10 ^ k) : (sdg m).length ≤ k + 2 := by
  have a := dg_lenP h
  have b : (sgn m).length ≤ 1 := by
    unfold sgn
    split <;> simp
  unfold sdg
  rw [List.length_append]
  omega
theorem lit_E : Str.ofString ".E" = S [46, 69] := by decide +kernel
theorem num_big {m e : Int} (hm : m.natAbs < 10 ^ 2100) (h : e ≤ 64) : (m * 10 ^ e.toNat).natAbs < 128 * 256 ^ 1000 := by
  rw [Int.natAbs_mul, Int.natAbs_pow]
  have h3 : (10 : Int).natAbs ^ e.toNat ≤ 10 ^ 64 := Nat.pow_le_pow_right (by decide) (by omega)
  have h4 : m.natAbs * (10 : Int).natAbs ^ e.toNat ≤ 10 ^ 2100 * 10 ^ 64 := Nat.mul_le_mul (Nat.le_of_lt hm) h3
  have h5 : (10 : Nat) ^ 2100 * 10 ^ 64 < 128 * 256 ^ 1000 := by decide +kernel
  exact Nat.lt_of_le_of_lt h4 h5
section
variable {P : Program} {w : World} {K : PySem.W.Frag} {mg : Str → Option Value} {base : Heap} {f : Addr} {fd : FuncData}
theorem ok__law_leaf_written (F : FunD K "_law_leaf_written" "_law_leaf_written" (defArgs s__law_leaf_written) (defBody s__law_leaf_written) (defScope s__law_leaf_written) [] [] (glAd "_law_leaf_written" K) fd) (m : mg "_law_leaf_written" = some (.ref (glAd "_law_leaf_written" K))) (nb : Nm K mg) (c__law_tens : Cal P w K mg base 1 "_law_tens" sp__law_tens []) (c__law_ascii : Cal P w K mg base 1 "_law_ascii" (sp__law_ascii K) []) (c__law_utf8 : Cal P w K mg base 1 "_law_utf8" (sp__law_utf8 K) []) (c__law_integer : Cal P w K mg base 1 "_law_integer" (sp__law_integer K) []) (c__law_element : Cal P w K mg base 2 "_law_element" (sp__law_element K) []) : Cal P w K mg base 3 "_law_leaf_written" (sp__law_leaf_written K) [] := by
  refine calD F m sc__law_leaf_written (fun _ _ _ _ _ _ us hl => match us, hl with | [_], _ => rfl) len1 (fun cdv A outer s H vs Q E hr h => ⟨_, (pss_cons (ps_if (pt_cmpR op_eq (pe_ix ix_tup (pv 0) pe_int (fun _ _ => rfl)) pe_str (nomark _))
    (pss_one (ps_ret (pe_lst (pa_cons pe_int (pa_cons pe_int pa_nil)))))
    pss_nil)
    (pss_cons (ps_if (pt_cmpR op_eq (pe_ix ix_tup (pv 0) pe_int (fun _ _ => rfl)) pe_str (nomark _))
    (pss_one (ps_ret (pe_lst (pa_cons pe_int (pa_cons pe_int (pa_cons (pe_op op_mul pe_int (pe_callTy call_int1 (by rfl) nb.int (by decide +kernel) (pa_cons (pe_ix ix_tup (pv 0) pe_int (fun _ _ => rfl)) pa_nil))) pa_nil))))))
    pss_nil)
    (pss_cons (ps_if (pt_cmpR op_eq (pe_ix ix_tup (pv 0) pe_int (fun _ _ => rfl)) pe_str (nomark _))
    (pss_one (ps_ret (pe_c c__law_element hr (by decide) rfl (pa_cons pe_int (pa_cons (pe_callTy call_list_of (by rfl) nb.list (by decide +kernel) (pa_cons (pe_ix ix_tup (pv 0) pe_int (fun _ _ => rfl)) pa_nil)) pa_nil)))))
    pss_nil)
    (pss_cons (ps_if (pt_cmpR op_eq (pe_ix ix_tup (pv 0) pe_int (fun _ _ => rfl)) pe_str (nomark _))
    (pss_one (ps_ret (pe_c c__law_element hr (by decide) rfl (pa_cons pe_int (pa_cons (pe_c c__law_utf8 hr (by decide) rfl (pa_cons (pe_ix ix_tup (pv 0) pe_int (fun _ _ => rfl)) pa_nil)) pa_nil)))))
    pss_nil)
    (pss_cons (ps_if (pt_chain op_le op_le pe_int (pe_ix ix_tup (pv 0) pe_int (fun _ _ => rfl)) pe_int)
    (pss_one (ps_ret (pe_c c__law_element hr (by decide) rfl (pa_cons pe_int (pa_cons (pe_c c__law_integer hr (by decide) rfl (pa_cons (pe_op op_mulX (pe_ix ix_tup (pv 0) pe_int (fun _ _ => rfl)) (pe_c c__law_tens hr (by decide) rfl (pa_cons (pe_ix ix_tup (pv 0) pe_int (fun _ _ => rfl)) pa_nil))) pa_nil)) pa_nil)))))
    pss_nil)
    (pss_one (ps_ret (pe_c c__law_element hr (by decide) rfl (pa_cons pe_int (pa_cons (pe_op op_cat (pe_lst (pa_cons pe_int pa_nil)) (pe_c c__law_ascii hr (by decide) rfl (pa_cons (pe_op op_add_str (pe_op op_add_str (pe_callTy (call_strW rfl nb.dig) (by rfl) nb.str (by decide +kernel) (pa_cons (pe_ix ix_tup (pv 0) pe_int (fun _ _ => rfl)) pa_nil)) pe_str) (pe_callTy (call_strW rfl nb.dig) (by rfl) nb.str (by decide +kernel) (pa_cons (pe_ix ix_tup (pv 0) pe_int (fun _ _ => rfl)) pa_nil))) pa_nil))) pa_nil)))))))))), ?_⟩)
  obtain ⟨_, rfl, t, tl, tp, h⟩ := h
  cases t with
  | null =>
    obtain ⟨a, xs, rfl, ha, hx⟩ := tp_tup tp
    cases hx with
    | cons h1 h2 =>
    cases h1
    cases h2
    walk_at "rd"
    refine r_ixT (SqT.of ha) (atI_nat (j := 0) rfl) ?_
    walk_at "rd"
    refine r_itep rfl ?_
    walk_at "rd"
    exact ⟨by show 2 ≤ sizeLine; decide, fun p hp => out_new h hp⟩
  | truth b =>
    obtain ⟨a, xs, rfl, ha, hx⟩ := tp_tup tp
    cases hx with
    | cons h1 h2 =>
    cases h1
    cases h2 with
    | cons h1 h2 =>
    cases h1
    cases h2
    walk_at "rd"
    refine r_ixT (SqT.of ha) (atI_nat (j := 0) rfl) ?_
    walk_at "rd"
    refine r_iteN (by decide +kernel) ?_
    walk_at "rd"
    refine r_ixT (SqT.of ha) (atI_nat (j := 0) rfl) ?_
    walk_at "rd"
    refine r_itep rfl ?_
    walk_at "rd"
    refine r_ixT (SqT.of ha) (atI_nat (j := 1) rfl) ?_
    walk_at "rd"
    refine .inr ⟨_, rfl, ?_⟩
    walk_at "rd"
    cases b <;> exact ⟨by show 3 ≤ sizeLine; decide, fun p hp => out_new h hp⟩
  | number m e =>
    obtain ⟨a, xs, rfl, ha, hx⟩ := tp_tup tp
    cases hx with
    | cons h1 h2 =>
    cases h1
    cases h2 with
    | cons h1 h2 =>
    cases h1
    cases h2 with
    | cons h1 h2 =>
    cases h1
    cases h2
    walk_at "rd"
    refine r_ixT (SqT.of ha) (atI_nat (j := 0) rfl) ?_
    walk_at "rd"
    refine r_iteN (by decide +kernel) ?_
    walk_at "rd"
    refine r_ixT (SqT.of ha) (atI_nat (j := 0) rfl) ?_
    walk_at "rd"
    refine r_iteN (by decide +kernel) ?_
    walk_at "rd"
    refine r_ixT (SqT.of ha) (atI_nat (j := 0) rfl) ?_
    walk_at "rd"
    refine r_iteN (by decide +kernel) ?_
    walk_at "rd"
    refine r_ixT (SqT.of ha) (atI_nat (j := 0) rfl) ?_
    walk_at "rd"
    refine r_iteN (by decide +kernel) ?_
    walk_at "rd"
    refine r_ixT (SqT.of ha) (atI_nat (j := 2) rfl) ?_
    walk_at "rd"
    have decl : ¬ (0 ≤ e ∧ e ≤ 64) → Out H (elem 9 (decO m e)) Q := fun c => by
      have e1 : ber (.number m e) = elem 9 (decO m e) := if_neg c
      rw [e1] at h
      exact h
    refine r_ite (fun c => ?_) (fun c => ?_)
    · walk_at "rd"
      refine r_ite (fun c2 => ?_) (fun c2 => ?_)
      · have e1 : ber (.number m e) = elem 2 (intO (m * 10 ^ e.toNat)) := if_pos ⟨c, c2⟩
        rw [e1] at h
        walk_at "rd"
        refine r_ixT (SqT.of ha) (atI_nat (j := 1) rfl) ?_
        walk_at "rd"
        refine r_ixT (SqT.of ha) (atI_nat (j := 2) rfl) ?_
        walk_at "rd"
        refine ⟨_, rfl, e.toNat, congrArg V.int (by omega), by omega, ?_⟩
        walk_at "rd"
        refine r_I (mulx_ok (abs10 tl.1) (pow_bits (b := 10) (by decide) e.toNat) (by omega)) ?_
        walk_at "rd"
        refine ⟨_, rfl, _, rfl, num_big tl.1 c2, fun p2 H2 n2 g2 s2 => ?_⟩
        walk_at "rd"
        refine ⟨_, _, rfl, 2, p2, _, rfl, rfl, g2, ?_, h.same s2⟩
        exact Nat.le_trans (intO_len (b := 1000) (num_big tl.1 c2) (by decide)) (by decide)
      · walk_at "rd"
        refine ⟨by show 1 ≤ sizeLine; decide, fun q2 n2 => ?_⟩
        obtain ⟨H3, e3, s3, g3⟩ := new_o (o := .lst ([3].map V.int)) n2
        rw [show (HO.lst [V.int 3]) = .lst ([3].map V.int) from rfl, e3]
        clear e3
        walk_at "rd"
        refine r_ixT (SqT.of (s3 _ _ ha)) (atI_nat (j := 1) rfl) ?_
        walk_at "rd"
        refine ⟨Nat.lt_trans tl.1 (Nat.pow_lt_pow_right (by decide) (by decide)), ?_⟩
        rw [str_sdg]
        have lm := sdg_len tl.1
        have le := sdg_len tl.2
        walk_at "rd"
        refine r_add (x := S (sdg m)) (y := ".E") rfl lit_E (by show _ + 2 ≤ _; clear tl; omega) ?_
        walk_at "rd"
        refine r_ixT (SqT.of (s3 _ _ ha)) (atI_nat (j := 2) rfl) ?_
        walk_at "rd"
        refine ⟨Nat.lt_trans tl.2 (Nat.pow_lt_pow_right (by decide) (by decide)), ?_⟩
        rw [str_sdg]
        walk_at "rd"
        refine r_add (x := S (sdg m) ++ S [46, 69]) (y := S (sdg e)) (a := sdg m ++ [46, 69]) (S_cat _ _) rfl (by rw [List.length_append]; show _ + 2 + _ ≤ _; clear tl; omega) ?_
        walk_at "rd"
        have hlen : (sdg m ++ [46, 69] ++ sdg e).length ≤ 10000 := by
          rw [List.length_append, List.length_append]
          show _ + 2 + _ ≤ _
          clear tl
          omega
        refine ⟨_, rfl, sdg m ++ [46, 69] ++ sdg e, congrArg V.str (S_cat _ _), hlen, fun p4 H4 n4 g4 s4 => ?_⟩
        walk_at "rd"
        refine r_catB (s4 _ _ g3) g4 (by rw [asc_len]; show 1 + _ ≤ _; clear tl; omega) fun p5 H5 n5 g5 s5 => ?_
        walk_at "rd"
        exact ⟨_, _, rfl, 9, p5, _, rfl, rfl, g5, (by rw [List.length_append, asc_len]; show 1 + _ ≤ _; clear tl; omega), (decl (by omega)).same ((s3.trans s4).trans s5)⟩
    · walk_at "rd"
      refine ⟨by show 1 ≤ sizeLine; decide, fun q2 n2 => ?_⟩
      obtain ⟨H3, e3, s3, g3⟩ := new_o (o := .lst ([3].map V.int)) n2
      rw [show (HO.lst [V.int 3]) = .lst ([3].map V.int) from rfl, e3]
      clear e3
      walk_at "rd"
      refine r_ixT (SqT.of (s3 _ _ ha)) (atI_nat (j := 1) rfl) ?_
      walk_at "rd"
      refine ⟨Nat.lt_trans tl.1 (Nat.pow_lt_pow_right (by decide) (by decide)), ?_⟩
      rw [str_sdg]
      have lm := sdg_len tl.1
      have le := sdg_len tl.2
      walk_at "rd"
      refine r_add (x := S (sdg m)) (y := ".E") rfl lit_E (by show _ + 2 ≤ _; clear tl; omega) ?_
      walk_at "rd"
      refine r_ixT (SqT.of (s3 _ _ ha)) (atI_nat (j := 2) rfl) ?_
      walk_at "rd"
      refine ⟨Nat.lt_trans tl.2 (Nat.pow_lt_pow_right (by decide) (by decide)), ?_⟩
      rw [str_sdg]
      walk_at "rd"
      refine r_add (x := S (sdg m) ++ S [46, 69]) (y := S (sdg e)) (a := sdg m ++ [46, 69]) (S_cat _ _) rfl (by rw [List.length_append]; show _ + 2 + _ ≤ _; clear tl; omega) ?_
      walk_at "rd"
      have hlen : (sdg m ++ [46, 69] ++ sdg e).length ≤ 10000 := by
        rw [List.length_append, List.length_append]
        show _ + 2 + _ ≤ _
        clear tl
        omega
      refine ⟨_, rfl, sdg m ++ [46, 69] ++ sdg e, congrArg V.str (S_cat _ _), hlen, fun p4 H4 n4 g4 s4 => ?_⟩
      walk_at "rd"
      refine r_catB (s4 _ _ g3) g4 (by rw [asc_len]; show 1 + _ ≤ _; clear tl; omega) fun p5 H5 n5 g5 s5 => ?_
      walk_at "rd"
      exact ⟨_, _, rfl, 9, p5, _, rfl, rfl, g5, (by rw [List.length_append, asc_len]; show 1 + _ ≤ _; clear tl; omega), (decl (by omega)).same ((s3.trans s4).trans s5)⟩
  | bytes os =>
    obtain ⟨a, xs, rfl, ha, hx⟩ := tp_tup tp
    cases hx with
    | cons h1 h2 =>
    cases h1
    cases h2 with
    | cons h1 h2 =>
    obtain ⟨q, rfl, hq⟩ := tp_kdB h1
    cases h2
    walk_at "rd"
    refine r_ixT (SqT.of ha) (atI_nat (j := 0) rfl) ?_
    walk_at "rd"
    refine r_iteN (by decide +kernel) ?_
    walk_at "rd"
    refine r_ixT (SqT.of ha) (atI_nat (j := 0) rfl) ?_
    walk_at "rd"
    refine r_iteN (by decide +kernel) ?_
    walk_at "rd"
    refine r_ixT (SqT.of ha) (atI_nat (j := 0) rfl) ?_
    walk_at "rd"
    refine r_itep rfl ?_
    walk_at "rd"
    refine r_ixT (SqT.of ha) (atI_nat (j := 1) rfl) ?_
    walk_at "rd"
    refine ⟨q, _, rfl, .inr (SqT.of hq), fun p2 n2 => ?_⟩
    obtain ⟨H2, e, s2, g2⟩ := new_o (o := .lst (os.map V.int)) n2
    rw [e]
    clear e
    walk_at "rd"
    refine ⟨_, _, rfl, 4, p2, os, rfl, rfl, g2, Nat.le_trans tl (by decide), h.same s2⟩
  | text ps =>
    obtain ⟨a, xs, rfl, ha, hx⟩ := tp_tup tp
    cases hx with
    | cons h1 h2 =>
    cases h1
    cases h2 with
    | cons h1 h2 =>
    obtain ⟨q, rfl, hq⟩ := tp_kdB h1
    cases h2
    walk_at "rd"
    refine r_ixT (SqT.of ha) (atI_nat (j := 0) rfl) ?_
    walk_at "rd"
    refine r_iteN (by decide +kernel) ?_
    walk_at "rd"
    refine r_ixT (SqT.of ha) (atI_nat (j := 0) rfl) ?_
    walk_at "rd"
    refine r_iteN (by decide +kernel) ?_
    walk_at "rd"
    refine r_ixT (SqT.of ha) (atI_nat (j := 0) rfl) ?_
    walk_at "rd"
    refine r_iteN (by decide +kernel) ?_
    walk_at "rd"
    refine r_ixT (SqT.of ha) (atI_nat (j := 0) rfl) ?_
    walk_at "rd"
    refine r_itep rfl ?_
    walk_at "rd"
    refine r_ixT (SqT.of ha) (atI_nat (j := 1) rfl) ?_
    walk_at "rd"
    refine ⟨_, rfl, q, ps, rfl, hq, tl, fun p2 H2 n2 g2 s2 => ?_⟩
    walk_at "rd"
    refine ⟨_, _, rfl, 12, p2, utf8 ps, rfl, rfl, g2, ?_, h.same s2⟩
    have h1 := utf8_len ps
    have h2 := tl.1
    omega
  | ls xs => exact tl.elim
  | mp xs => exact tl.elim
end

abbrev s__law_written : Stmt := (top 64)
theorem sc__law_written : FnScope ["value", "found", "item", "rows", "entry", "row"] ["value"] (defScope s__law_written) := ⟨rfl, rfl, rfl, by decide +kernel, rfl, by decide +kernel, by decide +kernel⟩
def sp__law_written (K : Frg) (N : Nat) : Sp := sp1 fun a H Q _ => ∃ (t : Vb) (n : Nat), t.ok n ∧ n < N ∧ bsz t ≤ 4000 ∧ Tp H a t.dat ∧ Out H (ber t) Q
theorem no__law_written {K : Frg} {vs : List V} {H : Hp} {Q : VK} {E : XK} (h : sp__law_written K 0 vs H Q E) : False := by
  obtain ⟨_, rfl, _, _, _, h, _⟩ := h
  exact absurd h (Nat.not_lt_zero _)
theorem leaf_head {H : Hp} {v : V} {t : Vb} (l : t.leaf) (h : Tp H v t.dat) : ∃ a k xs, v = .ref a ∧ H a = some (.tup (.str k :: xs)) ∧ k ≠ Str.ofString "list" ∧ k ≠ Str.ofString "map" := by
  cases t with
  | ls xs => exact l.elim
  | mp xs => exact l.elim
  | null =>
    obtain ⟨a, xs, rfl, ha, hx⟩ := tp_tup h
    cases hx with
    | cons h1 h2 => cases h1; exact ⟨a, _, _, rfl, ha, by decide +kernel, by decide +kernel⟩
  | truth b =>
    obtain ⟨a, xs, rfl, ha, hx⟩ := tp_tup h
    cases hx with
    | cons h1 h2 => cases h1; exact ⟨a, _, _, rfl, ha, by decide +kernel, by decide +kernel⟩
  | number m e =>
    obtain ⟨a, xs, rfl, ha, hx⟩ := tp_tup h
    cases hx with
    | cons h1 h2 => cases h1; exact ⟨a, _, _, rfl, ha, by decide +kernel, by decide +kernel⟩
  | bytes os =>
    obtain ⟨a, xs, rfl, ha, hx⟩ := tp_tup h
    cases hx with
    | cons h1 h2 => cases h1; exact ⟨a, _, _, rfl, ha, by decide +kernel, by decide +kernel⟩
  | text ps =>
    obtain ⟨a, xs, rfl, ha, hx⟩ := tp_tup h
    cases hx with
    | cons h1 h2 => cases h1; exact ⟨a, _, _, rfl, ha, by decide +kernel, by decide +kernel⟩
/-- a value is a leaf, a list, or a map of n levels -/
theorem vb_kinds {n : Nat} {t : Vb} (h : t.ok n) : t.leaf ∨ (∃ m xs, n = m + 1 ∧ t = .ls xs ∧ xs.length ≤ 49 ∧ bokL m xs) ∨ (∃ m es, n = m + 1 ∧ t = .mp es ∧ es.length ≤ 49 ∧ (∀ e ∈ es, Pts e.1) ∧ bokM m es) := by
  cases t with
  | ls xs =>
    cases n with
    | zero => exact h.elim
    | succ m => exact .inr (.inl ⟨m, xs, rfl, rfl, h.1, h.2⟩)
  | mp es =>
    cases n with
    | zero => exact h.elim
    | succ m => exact .inr (.inr ⟨m, es, rfl, rfl, h.1, h.2.1, h.2.2⟩)
  | null => exact .inl trivial
  | truth b => exact .inl trivial
  | number m e => exact .inl (by cases n <;> exact h)
  | bytes os => exact .inl (by cases n <;> exact h)
  | text ps => exact .inl (by cases n <;> exact h)
theorem two_head {H : Hp} {v : V} {k : Str} {ds : List PyData} (h : Tp H v (.tuple [.str k, .tuple ds])) : ∃ a q vs, v = .ref a ∧ H a = some (.tup [.str k, .ref q]) ∧ H q = some (.tup vs) ∧ TpAll H vs ds := by
  obtain ⟨a, xs, rfl, ha, hx⟩ := tp_tup h
  cases hx with
  | cons h1 h2 =>
  cases h1
  cases h2 with
  | cons h1 h2 =>
  obtain ⟨q, vs, rfl, hq, hv⟩ := tp_tup h1
  cases h2
  exact ⟨a, q, vs, rfl, ha, hq, hv⟩
theorem bszL_take : ∀ (xs : List Vb) (i : Nat), bszL (xs.take i) ≤ bszL xs
  | [], i => by simp
  | x :: xs, 0 => Nat.zero_le _
  | x :: xs, i + 1 => by
    show bsz x + bszL (xs.take i) ≤ bsz x + bszL xs
    have := bszL_take xs i
    omega
theorem bszL_mem : ∀ {xs : List Vb} {x : Vb}, x ∈ xs → bsz x ≤ bszL xs
  | y :: ys, x, h => by
    show bsz x ≤ bsz y + bszL ys
    rcases List.mem_cons.mp h with e | e
    · rw [e]; omega
    · have := bszL_mem e
      omega
theorem bszM_mem : ∀ {es : List (List Int × Vb)} {e : List Int × Vb}, e ∈ es → 1 + bsz e.2 ≤ bszM es
  | (k, v) :: es, e, h => by
    show 1 + bsz e.2 ≤ 1 + bsz v + bszM es
    rcases List.mem_cons.mp h with q | q
    · rw [q]; show 1 + bsz v ≤ _; omega
    · have := bszM_mem q
      omega
theorem bokL_take {n : Nat} {xs : List Vb} (h : bokL n xs) (i : Nat) : bokL n (xs.take i) := bokL_of fun x hx => bokL_mem h x (List.mem_of_mem_take hx)
theorem berL_snoc {xs : List Vb} {i : Nat} {x : Vb} (h : xs[i]? = some x) : berL (xs.take (i + 1)) = berL (xs.take i) ++ ber x := by
  rw [berL_map, berL_map, List.take_succ, h]
  simp
theorem berM_snoc {es : List (List Int × Vb)} {i : Nat} {e : List Int × Vb} (h : es[i]? = some e) : berM (es.take (i + 1)) = berM (es.take i) ++ [elem 48 (elem 12 (utf8 e.1) ++ ber e.2)] := by
  rw [berM_map, berM_map, List.take_succ, h]
  simp
theorem flat_take (rows : List (List Int)) (i : Nat) : (rows.take i).flatten.length ≤ rows.flatten.length := by
  conv => rhs; rw [← List.take_append_drop i rows]
  rw [List.flatten_append, List.length_append]
  omega
section
variable {P : Program} {w : World} {K : PySem.W.Frag} {mg : Str → Option Value} {base : Heap} {f : Addr} {fd : FuncData}
theorem ok__law_written (n : Nat) (F : FunD K "_law_written" "_law_written" (defArgs s__law_written) (defBody s__law_written) (defScope s__law_written) [] [] (glAd "_law_written" K) fd) (m : mg "_law_written" = some (.ref (glAd "_law_written" K))) (nb : Nm K mg) (c__law_utf8 : Cal P w K mg base 1 "_law_utf8" (sp__law_utf8 K) []) (c__law_element : Cal P w K mg base 2 "_law_element" (sp__law_element K) []) (c__law_leaf_written : Cal P w K mg base 3 "_law_leaf_written" (sp__law_leaf_written K) []) (c__law_written : Cal P w K mg base (4 + n) "_law_written" (sp__law_written K n) []) : Cal P w K mg base (4 + n + 1) "_law_written" (sp__law_written K (n + 1)) [] := by
  refine calD F m sc__law_written (fun _ _ _ _ _ _ us hl => match us, hl with | [_], _ => rfl) len1 (fun cdv A outer s H vs Q E hr h => ⟨_, (pss_cons (ps_set (i := 1) sc__law_written.nd rfl (Or.inl rfl) (pe_lst pa_nil))
    (pss_cons (ps_if (pt_cmpR op_eq (pe_ix ix_tup (pv 0) pe_int (fun _ _ => rfl)) pe_str (nomark _))
    (pss_cons (ps_for PassesOwn.never rfl (pi_tup (pe_ix ix_tup (pv 0) pe_int (fun _ _ => rfl))) (pg_name (i := 2) sc__law_written.nd rfl (Or.inl rfl))
    (pss_one (ps_set (i := 1) sc__law_written.nd rfl (Or.inl rfl) (pe_op op_cat (pv 1) (pe_c c__law_written hr (by omega) rfl (pa_cons (pv 2) pa_nil))))))
    (pss_one (ps_ret (pe_c c__law_element hr (by omega) rfl (pa_cons pe_int (pa_cons (pv 1) pa_nil))))))
    pss_nil)
    (pss_cons (ps_if (pt_cmpR op_eq (pe_ix ix_tup (pv 0) pe_int (fun _ _ => rfl)) pe_str (nomark _))
    (pss_cons (ps_set (i := 3) sc__law_written.nd rfl (Or.inl rfl) (pe_lst pa_nil))
    (pss_cons (ps_for PassesOwn.never rfl (pi_tup (pe_ix ix_tup (pv 0) pe_int (fun _ _ => rfl))) (pg_name (i := 4) sc__law_written.nd rfl (Or.inl rfl))
    (pss_one (ps_expr (pe_bm PySem.F.plainAttrs_list PySem.F.slot_list_append PySem.F.type_list_append mt_append (pv 3) (pa_cons (pe_c c__law_element hr (by omega) rfl (pa_cons pe_int (pa_cons (pe_op op_cat (pe_c c__law_element hr (by omega) rfl (pa_cons pe_int (pa_cons (pe_c c__law_utf8 hr (by omega) rfl (pa_cons (pe_ix ix_tup (pv 4) pe_int (fun _ _ => rfl)) pa_nil)) pa_nil))) (pe_c c__law_written hr (by omega) rfl (pa_cons (pe_ix ix_tup (pv 4) pe_int (fun _ _ => rfl)) pa_nil))) pa_nil))) pa_nil)))))
    (pss_cons (ps_for PassesOwn.never rfl (pi_list (pe_callB (cr_sortedLL hr.units) (by rfl) nb.sorted (by decide +kernel) (pa_cons (pv 3) pa_nil))) (pg_name (i := 5) sc__law_written.nd rfl (Or.inl rfl))
    (pss_one (ps_set (i := 1) sc__law_written.nd rfl (Or.inl rfl) (pe_op op_cat (pv 1) (pv 5)))))
    (pss_one (ps_ret (pe_c c__law_element hr (by omega) rfl (pa_cons pe_int (pa_cons (pv 1) pa_nil))))))))
    pss_nil)
    (pss_one (ps_ret (pe_c c__law_leaf_written hr (by omega) rfl (pa_cons (pv 0) pa_nil))))))), ?_⟩)
  obtain ⟨_, rfl, t, n, ok, hn, sz, tp, h⟩ := h
  walk_at "rd"
  refine ⟨Nat.zero_le _, fun p0 n0 => ?_⟩
  obtain ⟨H0, e0, s0, g0⟩ := new_o (o := .lst []) n0
  rw [e0]
  clear e0
  walk_at "rd"
  rcases vb_kinds ok with hl | ⟨m, xs, rfl, rfl, hx, okx⟩ | ⟨m, es, rfl, rfl, hx, hk, oke⟩
  · obtain ⟨a, k, r, rfl, ha, c1, c2⟩ := leaf_head hl tp
    refine r_ixT (SqT.of (s0 _ _ ha)) (atI_nat (j := 0) rfl) ?_
    walk_at "rd"
    refine r_iteN c1 ?_
    walk_at "rd"
    refine r_ixT (SqT.of (s0 _ _ ha)) (atI_nat (j := 0) rfl) ?_
    walk_at "rd"
    refine r_iteN c2 ?_
    walk_at "rd"
    exact ⟨_, rfl, t, hl, Tp.tk (Same.tk s0) _ _ tp, h.same s0⟩
  · obtain ⟨a, q, vs, rfl, ha, hq, hv⟩ := two_head tp
    refine r_ixT (SqT.of (s0 _ _ ha)) (atI_nat (j := 0) rfl) ?_
    walk_at "rd"
    refine r_itep rfl ?_
    walk_at "rd"
    refine r_ixT (SqT.of (s0 _ _ ha)) (atI_nat (j := 1) rfl) ?_
    walk_at "rd"
    have okn : m < n := by omega
    have sz2 : 1 + bszL xs ≤ 4000 := sz
    refine ⟨q, rfl, ⟨_, SqT.of (s0 _ _ hq)⟩, r_eachT (xs := vs) (fun i σ H' => Same H H' ∧ ∃ (p : Addr) (y2 : Option V), H p = none ∧ H' p = some (.lst ((berL (xs.take i)).map V.int)) ∧ σ = [some (.ref a), some (.ref p), y2, none, none, none]) ⟨s0, p0, none, n0, g0, rfl⟩ (fun i σ H' p => SqT.of (p.1 _ _ hq)) ?_ ?_⟩
    · rintro i x σ H2 hi ⟨s2, p, y2, np, g2, rfl⟩
      obtain ⟨d, hd, tx⟩ := tpAll_get hv hi
      rw [bdL_map, List.getElem?_map] at hd
      obtain ⟨vb, hvb, rfl⟩ := Option.map_eq_some_iff.mp hd
      have hmem := List.mem_of_getElem? hvb
      have hb1 := bszL_mem hmem
      have hb2 := berL_len m (xs.take i) (bokL_take okx i)
      have hb3 := bszL_take xs i
      have hb4 := ber_len m vb (bokL_mem okx vb hmem)
      walk_at "rd"
      refine ⟨_, rfl, vb, m, bokL_mem okx vb hmem, okn, by omega, Tp.tk (Same.tk s2) _ _ tx, fun p3 H3 n3 g3 s3 => ?_⟩
      walk_at "rd"
      have hb5 := berL_len m (xs.take (i + 1)) (bokL_take okx (i + 1))
      have hb6 := bszL_take xs (i + 1)
      rw [berL_snoc hvb, List.length_append] at hb5
      refine r_catB (s3 _ _ g2) g3 (by omega) fun p4 H4 n4 g4 s4 => ?_
      exact ⟨(s2.trans s3).trans s4, p4, _, (s2.trans s3).free n4, by rw [berL_snoc hvb]; exact g4, rfl⟩
    · rintro σ H2 ⟨s2, p, y2, np, g2, rfl⟩
      have el : xs.take vs.length = xs := by
        rw [tpAll_len hv, bdL_len, List.take_length]
      rw [el] at g2
      have hb2 := berL_len m xs okx
      walk_at "rd"
      exact ⟨_, _, rfl, 48, p, _, rfl, rfl, g2, by omega, h.same s2⟩
  · obtain ⟨a, q, vs, rfl, ha, hq, hv⟩ := two_head tp
    refine r_ixT (SqT.of (s0 _ _ ha)) (atI_nat (j := 0) rfl) ?_
    walk_at "rd"
    refine r_iteN (by decide +kernel) ?_
    walk_at "rd"
    refine r_ixT (SqT.of (s0 _ _ ha)) (atI_nat (j := 0) rfl) ?_
    walk_at "rd"
    refine r_itep rfl ?_
    walk_at "rd"
    refine ⟨Nat.zero_le _, fun pR nR => ?_⟩
    obtain ⟨H1, e1, s1, g1⟩ := new_o (o := .lst []) nR
    rw [e1]
    clear e1
    have okn : m < n := by omega
    have sz2 : 1 + bszM es ≤ 4000 := sz
    have s01 := s0.trans s1
    have nRH : H pR = none := s0.free nR
    have ne0R : p0 ≠ pR := ne_of_none g0 nR
    walk_at "rd"
    refine r_ixT (SqT.of (s01 _ _ ha)) (atI_nat (j := 1) rfl) ?_
    walk_at "rd"
    refine ⟨q, rfl, ⟨_, SqT.of (s01 _ _ hq)⟩, r_eachT (xs := vs) (fun i σ H' => Same H H' ∧ H' p0 = some (.lst []) ∧ ∃ (as : List Addr) (y2 y4 : Option V), H' pR = some (.lst (as.map V.ref)) ∧ as.length = i ∧ (∀ b ∈ as, b ≠ pR) ∧ (∀ (j : Nat) (b : Addr) (k : List Int), as[j]? = some b → (berM (es.take i))[j]? = some k → H' b = some (.lst (k.map V.int))) ∧ σ = [some (.ref a), some (.ref p0), y2, some (.ref pR), y4, none]) ⟨s01, s1 _ _ g0, [], none, none, g1, rfl, fun b hb => absurd hb (by simp), fun j b k hb => absurd hb (by simp), rfl⟩ (fun i σ H' p => SqT.of (p.1 _ _ hq)) ?_ ?_⟩
    · rintro i x σ H2 hi ⟨s2, gp, as, y2, y4, g2, el, ne2, at2, rfl⟩
      obtain ⟨d, hd, tx⟩ := tpAll_get hv hi
      rw [bdM_map, List.getElem?_map] at hd
      obtain ⟨⟨k, vb⟩, hvb, rfl⟩ := Option.map_eq_some_iff.mp hd
      have hmem := List.mem_of_getElem? hvb
      have hb1 : 1 + bsz vb ≤ bszM es := bszM_mem hmem
      have hb4 := ber_len m vb (bokM_mem oke _ hmem)
      obtain ⟨ea, exs, rfl, hea, hex⟩ := tp_tup tx
      cases hex with
      | cons h1 h2 =>
      obtain ⟨kq, rfl, hkq⟩ := tp_kdB h1
      cases h2 with
      | cons h2 h3 =>
      cases h3
      walk_at "rd"
      have hkl := (hk _ hmem).1
      have hkl2 := utf8_len k
      have hkl3 := elem_len 12 (utf8 k)
      have hkl : k.length ≤ 260 := hkl
      refine ⟨tyL g2, ?_⟩
      walk_at "rd"
      refine r_ixT (SqT.of (s2 _ _ hea)) (atI_nat (j := 0) rfl) ?_
      walk_at "rd"
      refine ⟨_, rfl, kq, k, rfl, s2 _ _ hkq, hk _ hmem, fun p3 H3 n3 g3 s3 => ?_⟩
      walk_at "rd"
      refine ⟨_, _, rfl, 12, p3, _, rfl, rfl, g3, by omega, fun p4 H4 n4 g4 s4 => ?_⟩
      have s24 := s2.trans (s3.trans s4)
      walk_at "rd"
      refine r_ixT (SqT.of (s24 _ _ hea)) (atI_nat (j := 1) rfl) ?_
      walk_at "rd"
      refine ⟨_, rfl, vb, m, bokM_mem oke _ hmem, okn, by omega, Tp.tk (Same.tk s24) _ _ h2, fun p5 H5 n5 g5 s5 => ?_⟩
      walk_at "rd"
      refine r_catB (s5 _ _ g4) g5 (by omega) fun p6 H6 n6 g6 s6 => ?_
      walk_at "rd"
      refine ⟨_, _, rfl, 48, p6, _, rfl, rfl, g6, by rw [List.length_append]; omega, fun p7 H7 n7 g7 s7 => ?_⟩
      walk_at "rd"
      have s27 := (s3.trans s4).trans (s5.trans (s6.trans s7))
      have gR := s27 _ _ g2
      have n7' : p7 ≠ pR := fun e => by
        rw [e] at n7
        rw [((s3.trans s4).trans (s5.trans s6)) _ _ g2] at n7
        cases n7
      refine r_appK gR (small1000 (by rw [List.length_map, el]; have := (List.getElem?_eq_some_iff.mp hvb).1; omega)) fun H8 hR8 f8 => ?_
      have k8 : ∀ b o, b ≠ pR → H7 b = some o → H8 b = some o := fun b o nb z => (f8 b nb).trans z
      refine ⟨same_but (s2.trans s27) nRH f8, k8 _ _ ne0R (s27 _ _ gp), as ++ [p7], y2, _, by rw [hR8, List.map_append]; rfl, by rw [List.length_append, el]; rfl, fun b hb => ?_, fun j b kk hj hkk => ?_, rfl⟩
      · rcases List.mem_append.mp hb with z | z
        · exact ne2 b z
        · rw [List.mem_singleton.mp z]
          exact n7'
      · rw [berM_snoc hvb] at hkk
        have el2 : (berM (es.take i)).length = as.length := by
          rw [berM_map, List.length_map, List.length_take, el]
          have := (List.getElem?_eq_some_iff.mp hvb).1
          omega
        by_cases cj : j < as.length
        · rw [List.getElem?_append_left cj] at hj
          rw [List.getElem?_append_left (by omega)] at hkk
          exact k8 _ _ (ne2 b (List.mem_of_getElem? hj)) (s27 _ _ (at2 j b kk hj hkk))
        · rw [List.getElem?_append_right (by omega)] at hj hkk
          rw [el2] at hkk
          have hj0 : j - as.length = 0 := by
            have := (List.getElem?_eq_some_iff.mp hj).1
            simp at this
            omega
          rw [hj0] at hj hkk
          cases (show some p7 = some b from hj)
          cases (show some _ = some kk from hkk)
          exact k8 _ _ n7' g7
    · rintro σ H2 ⟨s2, gp, as, y2, y4, g2, el, ne2, at2, rfl⟩
      have elm : es.take vs.length = es := by
        rw [tpAll_len hv, bdM_len, List.take_length]
      rw [elm] at at2
      walk_at "rd"
      have el3 : as.length = (berM es).length := by
        rw [el, berM_map, List.length_map, tpAll_len hv, bdM_len]
      refine ⟨pR, _, berM es, rfl, SqL.of g2, ⟨as, rfl, el3, at2⟩, fun p8 ys n8 hys => ?_⟩
      obtain ⟨bs, rfl, hbl, hba⟩ := hys
      obtain ⟨H3, e3, s3, g3⟩ := new_o (o := .lst (bs.map V.ref)) n8
      rw [e3]
      clear e3
      walk_at "rd"
      have hM := berM_len m es hk oke
      have hM2 := rows_len (List.mergeSort_perm (berM es) rowLe)
      generalize hrows : (berM es).mergeSort rowLe = rows at hbl hba hM2
      refine ⟨p8, rfl, ⟨_, SqL.of g3⟩, r_eachL (xs := bs.map V.ref) (fun i σ H' => Same H3 H' ∧ ∃ (p : Addr) (y5 : Option V), H p = none ∧ H' p = some (.lst ((rows.take i).flatten.map V.int)) ∧ σ = [some (.ref a), some (.ref p), y2, some (.ref pR), y4, y5]) ⟨Same.refl H3, p0, none, n0, s3 _ _ gp, rfl⟩ (fun i σ H' p => SqL.of (p.1 _ _ g3)) ?_ ?_⟩
      · rintro i x σ H4 hi ⟨s4, p, y5, np, g4, rfl⟩
        rw [List.getElem?_map] at hi
        obtain ⟨b, hb, rfl⟩ := Option.map_eq_some_iff.mp hi
        have hil : i < rows.length := by
          have := (List.getElem?_eq_some_iff.mp hb).1
          omega
        have hrow := List.getElem?_eq_getElem hil
        have gb := s4 _ _ (s3 _ _ (hba i b _ hb hrow))
        have efl : (rows.take (i + 1)).flatten = (rows.take i).flatten ++ rows[i] := by
          rw [List.take_succ, hrow, List.flatten_append]
          simp
        have hb5 := flat_take rows (i + 1)
        rw [efl, List.length_append] at hb5
        walk_at "rd"
        refine r_catB g4 gb (by omega) fun p5 H5 n5 g5 s5 => ?_
        exact ⟨s4.trans s5, p5, _, ((s2.trans s3).trans s4).free n5, by rw [efl]; exact g5, rfl⟩
      · rintro σ H4 ⟨s4, p, y5, np, g4, rfl⟩
        rw [List.length_map, hbl, List.take_length] at g4
        walk_at "rd"
        refine ⟨_, _, rfl, 49, p, _, rfl, rfl, g4, by omega, ?_⟩
        have e : ber (.mp es) = elem 49 rows.flatten := by
          rw [← hrows]
          rfl
        rw [e] at h
        exact h.same ((s2.trans s3).trans s4)
theorem rec__law_written (F : FunD K "_law_written" "_law_written" (defArgs s__law_written) (defBody s__law_written) (defScope s__law_written) [] [] (glAd "_law_written" K) fd) (m : mg "_law_written" = some (.ref (glAd "_law_written" K))) (nb : Nm K mg) (c__law_utf8 : Cal P w K mg base 1 "_law_utf8" (sp__law_utf8 K) []) (c__law_element : Cal P w K mg base 2 "_law_element" (sp__law_element K) []) (c__law_leaf_written : Cal P w K mg base 3 "_law_leaf_written" (sp__law_leaf_written K) []) : ∀ n, Cal P w K mg base (4 + n) "_law_written" (sp__law_written K n) []
  | 0 => calD (k := 3) F m sc__law_written (fun _ _ _ _ _ _ us hl => match us, hl with | [_], _ => rfl) (fun _ _ _ _ h => (no__law_written h).elim) (fun _ _ _ _ _ _ _ _ _ h => (no__law_written h).elim)
  | n + 1 => ok__law_written n F m nb c__law_utf8 c__law_element c__law_leaf_written (rec__law_written F m nb c__law_utf8 c__law_element c__law_leaf_written n)
end

abbrev s__law_same : Stmt := (top 57)
theorem sc__law_same : FnScope ["actual", "due", "k"] ["actual", "due"] (defScope s__law_same) := ⟨rfl, rfl, rfl, by decide +kernel, rfl, by decide +kernel, by decide +kernel⟩
/-- two equal numbers, or two lists of the same numbers -/
def sp__law_same (K : Frg) (N : Nat) : Sp := sp2 fun a b H Q _ => ((∃ i : Int, 0 < N ∧ a = .int i ∧ b = .int i) ∨ (∃ (p q : Addr) (xs : List Int), 1 < N ∧ xs.length ≤ 16000000 ∧ a = .ref p ∧ b = .ref q ∧ H p = some (.lst (xs.map V.int)) ∧ H q = some (.lst (xs.map V.int)))) ∧ ∀ H', Same H H' → Q (.bl true) H'
theorem no__law_same {K : Frg} {vs : List V} {H : Hp} {Q : VK} {E : XK} (h : sp__law_same K 0 vs H Q E) : False := by
  obtain ⟨_, _, rfl, h, _⟩ := h
  rcases h with ⟨_, h, _⟩ | ⟨_, _, _, h, _⟩
  · exact absurd h (by decide)
  · exact absurd h (by decide)
theorem r_isiT2 {K : Frg} {H : Hp} {Q : VK} {x : V} {tp : Addr} {c1 c2 d : String} {b1 b2 : Bool} (ht : H tp = some (.tup [.ty c1, .ty c2])) (t : TyX K H x (.type d)) (e1 : kitB d c1 = some b1) (e2 : kitB d c2 = some b2) (h : Q (.bl (b1 || b2)) H) : rIsiT K [x, .ref tp] H Q :=
  ⟨x, tp, _, _, [.type c1, .type c2], b1 || b2, rfl, ht, .cons (.ty c1) (.cons (.ty c2) .nil), t, kitAny_cons (kit_ty e1) (fun _ => kitAny_cons (r := b1 || b2) (kit_ty e2) (fun q => by rename_i q1; rw [q1, q]; exact kitAny_nil) (fun q => by rw [q, Bool.or_true])) (fun q => by rw [q, Bool.true_or]), h⟩
section
variable {P : Program} {w : World} {K : PySem.W.Frag} {mg : Str → Option Value} {base : Heap} {f : Addr} {fd : FuncData}
theorem ok__law_same (n : Nat) (F : FunD K "_law_same" "_law_same" (defArgs s__law_same) (defBody s__law_same) (defScope s__law_same) [] [] (glAd "_law_same" K) fd) (m : mg "_law_same" = some (.ref (glAd "_law_same" K))) (nb : Nm K mg) (c__law_same : Cal P w K mg base (1 + n) "_law_same" (sp__law_same K n) []) : Cal P w K mg base (1 + n + 1) "_law_same" (sp__law_same K (n + 1)) [] := by
  refine calD F m sc__law_same (fun _ _ _ _ _ _ us hl => match us, hl with | [_, _], _ => rfl) len2 (fun cdv A outer s H vs Q E hr h => ⟨_, (pss_cons (ps_if (pt_val (pe_callB call_isiT (by rfl) nb.isinstance (by decide +kernel) (pa_cons (pv 1) (pa_cons (pe_tup (pa_cons (pe_bltn (v := .ty "list") (u := .type "list") (by rfl) nb.list (by decide +kernel) rfl) (pa_cons (pe_bltn (v := .ty "tuple") (u := .type "tuple") (by rfl) nb.tuple (by decide +kernel) rfl) pa_nil))) pa_nil))))
    (pss_cons (ps_if (PW.pt (pw_and (pt_val (pe_callB call_isi (by rfl) nb.isinstance (by decide +kernel) (pa_cons (pv 1) (pa_cons (pe_bltn (v := .ty "list") (u := .type "list") (by rfl) nb.list (by decide +kernel) rfl) pa_nil)))) (pw_and1 (pt_not (pt_val (pe_callB call_isi (by rfl) nb.isinstance (by decide +kernel) (pa_cons (pv 0) (pa_cons (pe_bltn (v := .ty "list") (u := .type "list") (by rfl) nb.list (by decide +kernel) rfl) pa_nil))))))))
    (pss_one (ps_ret pe_bl))
    pss_nil)
    (pss_cons (ps_if (PW.pt (pw_and (pt_val (pe_callB call_isi (by rfl) nb.isinstance (by decide +kernel) (pa_cons (pv 1) (pa_cons (pe_bltn (v := .ty "tuple") (u := .type "tuple") (by rfl) nb.tuple (by decide +kernel) rfl) pa_nil)))) (pw_and1 (pt_not (pt_val (pe_callB call_isi (by rfl) nb.isinstance (by decide +kernel) (pa_cons (pv 0) (pa_cons (pe_bltn (v := .ty "tuple") (u := .type "tuple") (by rfl) nb.tuple (by decide +kernel) rfl) pa_nil))))))))
    (pss_one (ps_ret pe_bl))
    pss_nil)
    (pss_cons (ps_if (pt_cmpR op_ne (pe_callB call_len_seq (by rfl) nb.len PySem.boot_len (pa_cons (pv 0) pa_nil)) (pe_callB call_len_seq (by rfl) nb.len PySem.boot_len (pa_cons (pv 1) pa_nil)) (nomark _))
    (pss_one (ps_ret pe_bl))
    pss_nil)
    (pss_cons (ps_for PassesOwn.never rfl (pi_range1 rfl nb.range (pa_cons (pe_callB call_len_seq (by rfl) nb.len PySem.boot_len (pa_cons (pv 1) pa_nil)) pa_nil)) (pg_name (i := 2) sc__law_same.nd rfl (Or.inl rfl))
    (pss_one (ps_if (pt_not (pt_val (pe_c c__law_same hr (by omega) rfl (pa_cons (pe_ix ix_seq (pv 0) (pv 2) (fun _ _ => rfl)) (pa_cons (pe_ix ix_seq (pv 1) (pv 2) (fun _ _ => rfl)) pa_nil)))))
    (pss_one (ps_ret pe_bl))
    pss_nil)))
    (pss_one (ps_ret pe_bl))))))
    pss_nil)
    (pss_cons (ps_if (PW.pt (pw_or (pt_cmpR op_ne (pe_callB call_isi (by rfl) nb.isinstance (by decide +kernel) (pa_cons (pv 0) (pa_cons (pe_bltn (v := .ty "bool") (u := .type "bool") (by rfl) nb.bool (by decide +kernel) rfl) pa_nil))) (pe_callB call_isi (by rfl) nb.isinstance (by decide +kernel) (pa_cons (pv 1) (pa_cons (pe_bltn (v := .ty "bool") (u := .type "bool") (by rfl) nb.bool (by decide +kernel) rfl) pa_nil))) (nomark _)) (pw_or1 (pt_cmpR op_ne (pe_callB call_isi (by rfl) nb.isinstance (by decide +kernel) (pa_cons (pv 0) (pa_cons (pe_bltn (v := .ty "str") (u := .type "str") (by rfl) nb.str (by decide +kernel) rfl) pa_nil))) (pe_callB call_isi (by rfl) nb.isinstance (by decide +kernel) (pa_cons (pv 1) (pa_cons (pe_bltn (v := .ty "str") (u := .type "str") (by rfl) nb.str (by decide +kernel) rfl) pa_nil))) (nomark _)))))
    (pss_one (ps_ret pe_bl))
    pss_nil)
    (pss_one (ps_ret (pe_and (pe_callB call_isiT (by rfl) nb.isinstance (by decide +kernel) (pa_cons (pv 0) (pa_cons (pe_tup (pa_cons (pe_bltn (v := .ty "int") (u := .type "int") (by rfl) nb.int (by decide +kernel) rfl) (pa_cons (pe_bltn (v := .ty "str") (u := .type "str") (by rfl) nb.str (by decide +kernel) rfl) pa_nil))) pa_nil))) (pe_one (pe_cmpR (op_eqD hr.units) (pv 0) (pv 1) (nomark _)))))))), ?_⟩)
  obtain ⟨_, _, rfl, h, hQ⟩ := h
  rcases h with ⟨i, hn, rfl, rfl⟩ | ⟨p, q, xs, hn, hxl, rfl, rfl, hp, hq⟩
  · walk_at "rd"
    refine ⟨by show 2 ≤ sizeLine; decide, fun p1 n1 => ?_⟩
    obtain ⟨H1, e1, s1, g1⟩ := new_o (o := .tup [.ty "list", .ty "tuple"]) n1
    rw [e1]
    clear e1
    walk_at "rd"
    refine r_isiT2 (d := "int") (b1 := false) (b2 := false) g1 (.base (.int i)) (by decide +kernel) (by decide +kernel) ?_
    walk_at "rd"
    rw [if_neg (by decide)]
    walk_at "rd"
    refine r_isi (b := false) (.base (.int i)) (by decide +kernel) ?_
    walk_at "rd"
    refine r_isi (b := false) (.base (.int i)) (by decide +kernel) ?_
    walk_at "rd"
    refine ⟨rfl, _, rfl, ?_⟩
    refine r_no rfl ?_
    walk_at "rd"
    refine r_isi (b := false) (.base (.int i)) (by decide +kernel) ?_
    walk_at "rd"
    refine r_isi (b := false) (.base (.int i)) (by decide +kernel) ?_
    walk_at "rd"
    refine ⟨rfl, _, rfl, ?_⟩
    refine r_no rfl ?_
    walk_at "rd"
    refine ⟨by show 2 ≤ sizeLine; decide, fun p2 n2 => ?_⟩
    obtain ⟨H2, e2, s2, g2⟩ := new_o (o := .tup [.ty "int", .ty "str"]) n2
    rw [e2]
    clear e2
    walk_at "rd"
    refine r_isiT2 (d := "int") (b1 := true) (b2 := false) g2 (.base (.int i)) (by decide +kernel) (by decide +kernel) ⟨_, rfl, ?_⟩
    rw [if_pos (by decide)]
    walk_at "rd"
    refine r_eqDs (d := .int i) (.int i) (.int i) (by rfl) ?_
    exact hQ H2 (s1.trans s2)
  · walk_at "rd"
    refine ⟨by show 2 ≤ sizeLine; decide, fun p1 n1 => ?_⟩
    obtain ⟨H1, e1, s1, g1⟩ := new_o (o := .tup [.ty "list", .ty "tuple"]) n1
    rw [e1]
    clear e1
    walk_at "rd"
    refine r_isiT2 (d := "list") (b1 := true) (b2 := false) g1 (.base (.lst (s1 _ _ hq))) (by decide +kernel) (by decide +kernel) ?_
    walk_at "rd"
    rw [if_pos (by decide)]
    walk_at "rd"
    refine r_isi (b := true) (.base (.lst (s1 _ _ hq))) (by decide +kernel) ?_
    walk_at "rd"
    refine r_isi (b := true) (.base (.lst (s1 _ _ hp))) (by decide +kernel) ?_
    walk_at "rd"
    refine r_isi (b := false) (.base (.lst (s1 _ _ hq))) (by decide +kernel) ?_
    walk_at "rd"
    refine ⟨p, _, rfl, .inl (SqL.of (s1 _ _ hp)), ?_⟩
    walk_at "rd"
    refine ⟨q, _, rfl, .inl (SqL.of (s1 _ _ hq)), ?_⟩
    walk_at "rd"
    refine r_no rfl ?_
    walk_at "rd"
    refine ⟨q, _, rfl, .inl (SqL.of (s1 _ _ hq)), ?_⟩
    walk_at "rd"
    rw [List.length_map]
    refine r_turns (by omega) (by omega) (fun i σ H' => Same H H' ∧ ∃ y : Option V, σ = [some (.ref p), some (.ref q), y]) ⟨s1, none, rfl⟩ ?_ ?_
    · rintro i σ H2 hi ⟨s2, y, rfl⟩
      walk_at "rd"
      obtain ⟨v, _, ev⟩ := atI_ints (ns := xs) (k := (i : Int)) (by omega) (by omega)
      refine .inl (r_ixL (SqL.of (s2 _ _ hp)) ev ?_)
      walk_at "rd"
      refine .inl (r_ixL (SqL.of (s2 _ _ hq)) ev ?_)
      walk_at "rd"
      refine ⟨_, _, rfl, .inl ⟨v, by omega, rfl, rfl⟩, fun H3 s3 => ⟨true, rfl, ?_⟩⟩
      walk_at "rd"
      exact ⟨s2.trans s3, _, rfl⟩
    · rintro σ H2 ⟨s2, y, rfl⟩
      walk_at "rd"
      exact hQ H2 s2
theorem rec__law_same (F : FunD K "_law_same" "_law_same" (defArgs s__law_same) (defBody s__law_same) (defScope s__law_same) [] [] (glAd "_law_same" K) fd) (m : mg "_law_same" = some (.ref (glAd "_law_same" K))) (nb : Nm K mg) : ∀ n, Cal P w K mg base (1 + n) "_law_same" (sp__law_same K n) []
  | 0 => calD (k := 0) F m sc__law_same (fun _ _ _ _ _ _ us hl => match us, hl with | [_, _], _ => rfl) (fun _ _ _ _ h => (no__law_same h).elim) (fun _ _ _ _ _ _ _ _ _ h => (no__law_same h).elim)
  | n + 1 => ok__law_same n F m nb (rec__law_same F m nb n)
end

/-! ### the program's octets -/
abbrev s_signed_digits : Stmt := (top 15)
theorem sc_signed_digits : FnScope ["n", "sign"] ["n"] (defScope s_signed_digits) := ⟨rfl, rfl, rfl, by decide +kernel, rfl, by decide +kernel, by decide +kernel⟩
abbrev s_in_ascii : Stmt := (top 17)
theorem sc_in_ascii : FnScope ["string", "character"] ["string"] (defScope s_in_ascii) := ⟨rfl, rfl, rfl, by decide +kernel, rfl, by decide +kernel, by decide +kernel⟩
abbrev s_wide : Stmt := (top 19)
theorem sc_wide : FnScope ["n", "many", "shift"] ["n", "many"] (defScope s_wide) := ⟨rfl, rfl, rfl, by decide +kernel, rfl, by decide +kernel, by decide +kernel⟩
abbrev s_shortest : Stmt := (top 20)
theorem sc_shortest : FnScope ["n"] ["n"] (defScope s_shortest) := ⟨rfl, rfl, rfl, by decide +kernel, rfl, by decide +kernel, by decide +kernel⟩
abbrev s_shortest_signed : Stmt := (top 21)
theorem sc_shortest_signed : FnScope ["n", "bits"] ["n"] (defScope s_shortest_signed) := ⟨rfl, rfl, rfl, by decide +kernel, rfl, by decide +kernel, by decide +kernel⟩
abbrev s_element : Stmt := (top 31)
theorem sc_element : FnScope ["tag", "contents"] ["tag", "contents"] (defScope s_element) := ⟨rfl, rfl, rfl, by decide +kernel, rfl, by decide +kernel, by decide +kernel⟩
abbrev s__length_octets : Stmt := (top 32)
theorem sc__length_octets : FnScope ["length", "octets"] ["length"] (defScope s__length_octets) := ⟨rfl, rfl, rfl, by decide +kernel, rfl, by decide +kernel, by decide +kernel⟩
def sp_signed_digits (K : Frg) : Sp := sp1 fun a H Q _ => ∃ m : Int, a = .int m ∧ m.natAbs < 10 ^ 2100 ∧ ∀ H', Same H H' → Q (.str (S (sdg m))) H'
def sp_in_ascii (K : Frg) : Sp := sp__law_ascii K
def sp_wide (K : Frg) : Sp := sp2 fun a b H Q _ => ∃ (n : Int) (k : Nat), a = .int n ∧ b = .int (k : Int) ∧ k ≤ 2000 ∧ Out H (octs n k) Q
def sp_shortest (K : Frg) : Sp := sp1 fun a H Q _ => ∃ n : Int, a = .int n ∧ 128 ≤ n ∧ n < 16777216 ∧ Out H (octs n (if n < 256 then 1 else if n < 65536 then 2 else 3)) Q
def sp_shortest_signed (K : Frg) : Sp := sp1 fun a H Q _ => ∃ z : Int, a = .int z ∧ z.natAbs < 128 * 256 ^ 1000 ∧ Out H (intO z) Q
def sp_element (K : Frg) : Sp := sp__law_element K
def sp__length_octets (K : Frg) : Sp := sp__law_length K
theorem r_lc3 {σ : St} {H : Hp} {Q : VK} {ta : TA} {g : TG} {tt : TT} {te : TE} {vs : List Nat} (h : ta σ H fun ws H1 => ∃ (i j c : Int) (n : Nat), ws = [.int i, .int j, .int c] ∧ RgC i j c n ∧ ∀ D, H1 D = none → ∃ W : Nat → Nat → Hp → Prop, (∃ m, W 0 m (upd H1 D (.lst []))) ∧ ∀ i' m H, W i' m H →
  ((Itc i c n).stop i' H ∧ Q (.ref D) H) ∨ ((Itc i c n).go i' H ∧ ∃ Nx : Hp → Prop, (∀ H', Nx H' → ∃ m', m' < m ∧ W (i' + 1) m' H') ∧ ∀ x H', (Itc i c n).yld i' H x H' → g x (wipe σ vs) H' fun σ2 H2 => wipe σ2 vs = wipe σ vs ∧ tt σ2 H2 fun b H3 =>
    if b = true then te σ2 H3 fun y H4 => ∃ acc, H4 D = some (.lst acc) ∧ acc.length < sizeLine ∧ Nx (upd H4 D (.lst (acc ++ [y]))) else Nx H3)) : tLc (iRng3 ta) g tt te vs σ H Q := h
theorem lc_rangeC {lo c : Int} {n : Nat} {g : TG} {te : TE} {vs : List Nat} {σ : St} {H1 : Hp} {D : Addr} {Qd : Hp → Prop} (Pv : Nat → Hp → Prop) (h0 : Pv 0 (upd H1 D (.lst [])))
    (hs : ∀ i H, i < n → Pv i H → g (.int (lo + (i : Nat) * c)) (wipe σ vs) H fun σ2 H2 => wipe σ2 vs = wipe σ vs ∧ te σ2 H2 fun y H4 => ∃ acc, H4 D = some (.lst acc) ∧ acc.length < sizeLine ∧ Pv (i + 1) (upd H4 D (.lst (acc ++ [y])))) (hd : ∀ H, Pv n H → Qd H) :
    ∃ W : Nat → Nat → Hp → Prop, (∃ m, W 0 m (upd H1 D (.lst []))) ∧ ∀ i m H, W i m H →
      ((Itc lo c n).stop i H ∧ Qd H) ∨ ((Itc lo c n).go i H ∧ ∃ Nx : Hp → Prop, (∀ H', Nx H' → ∃ m', m' < m ∧ W (i + 1) m' H') ∧ ∀ x H', (Itc lo c n).yld i H x H' → g x (wipe σ vs) H' fun σ2 H2 => wipe σ2 vs = wipe σ vs ∧ tYes σ2 H2 fun b H3 =>
        if b = true then te σ2 H3 fun y H4 => ∃ acc, H4 D = some (.lst acc) ∧ acc.length < sizeLine ∧ Nx (upd H4 D (.lst (acc ++ [y]))) else Nx H3) := by
  refine ⟨fun i m H => m + i = n ∧ Pv i H, ⟨n, rfl, h0⟩, ?_⟩
  rintro i m H ⟨hm, p⟩
  by_cases hlt : i < n
  · refine .inr ⟨hlt, fun H' => Pv (i + 1) H', fun H' q => ⟨m - 1, by omega, by omega, q⟩, ?_⟩
    rintro _ _ ⟨rfl, rfl⟩
    exact hs i _ hlt p
  · have : i = n := by omega
    subst this
    exact .inl ⟨Nat.le_refl _, hd H p⟩
theorem rgM (k : Nat) (hk : k ≤ 2000) : RgC (8 * (k : Int) - 8) (-1) (-8) k := by
  have e : Builtin.Range.rangeSize (8 * (k : Int) - 8) (-1) (-8) = ((k : Nat) : Int) := by
    unfold Builtin.Range.rangeSize
    rw [if_neg (by omega)]
    by_cases z : k = 0
    · subst z
      rfl
    · rw [if_pos (by omega)]
      have e1 : (8 * (k : Int) - 8) - (-1) - 1 = 8 * ((k : Int) - 1) := by omega
      rw [e1, show (-(-8 : Int)) = 8 from rfl]
      first | omega | (rw [Int.fdiv_eq_ediv_of_nonneg _ (by decide)]; omega)
  have hs : Builtin.Range.small (8 * (k : Int) - 8) (-1) (-8) = true := by
    unfold Builtin.Range.small
    rw [e, ffl (by omega) (by omega), ffl (by decide) (by decide), ffl (by decide) (by decide), ffl (by omega) (by omega)]
    split
    · rw [ffl (by omega) (by omega)]
      simp
    · rw [ffl (by omega) (by omega)]
      simp
  exact ⟨by decide, by decide, hs, e⟩
theorem r_bits {to : TE} {σ : St} {H : Hp} {Q : VK} (h : to σ H fun x H1 => ∃ i, x = .int i ∧ Q (.int (Builtin.Int.intBits i : Nat)) H1) : tBits to σ H Q := h
theorem abs_nat27 {m : Int} : (if m < 0 then -m else m) = ((m.natAbs : Nat) : Int) := by split <;> omega
theorem bits_lt {x : Int} {m : Nat} : Builtin.Int.intBits x ≤ m ↔ x.natAbs < 2 ^ m := intBits_le_iff
theorem short_bits {n : Int} (h0 : 128 ≤ n) (h1 : n < 16777216) : ((Builtin.Int.intBits n : Nat) : Int) + 7 = (((if n < 256 then 1 else if n < 65536 then 2 else 3 : Nat) : Int)) * 8 + (((Builtin.Int.intBits n + 7) % 8 : Nat) : Int) := by
  have a7 : ¬ Builtin.Int.intBits n ≤ 7 := fun c => by
    have := bits_lt.mp c
    omega
  have a24 : Builtin.Int.intBits n ≤ 24 := bits_lt.mpr (by show n.natAbs < 16777216; omega)
  by_cases c1 : n < 256
  · have a8 : Builtin.Int.intBits n ≤ 8 := bits_lt.mpr (by show n.natAbs < 256; omega)
    rw [if_pos c1]
    omega
  · have b8 : ¬ Builtin.Int.intBits n ≤ 8 := fun c => by
      have := bits_lt.mp c
      omega
    rw [if_neg c1]
    by_cases c2 : n < 65536
    · have a16 : Builtin.Int.intBits n ≤ 16 := bits_lt.mpr (by show n.natAbs < 65536; omega)
      rw [if_pos c2]
      omega
    · have b16 : ¬ Builtin.Int.intBits n ≤ 16 := fun c => by
        have : n.natAbs < 65536 := bits_lt.mp c
        omega
      rw [if_neg c2]
      omega
/-- the number whose bits are counted -/
def xof (z : Int) : Int := if 0 ≤ z then z else -1 - z
theorem fits_x (z : Int) (i : Nat) : fitsI z (i + 1) = true ↔ (xof z).natAbs < 2 ^ (8 * i + 7) := by
  have e : (2 : Nat) ^ (8 * i + 7) = 128 * 256 ^ i := by
    rw [Nat.pow_add, Nat.pow_mul]
    show 256 ^ i * 128 = _
    exact Nat.mul_comm _ _
  have e2 : ((256 ^ i : Nat) : Int) = (256 : Int) ^ i := Int.natCast_pow 256 i
  rw [e]
  unfold fitsI xof
  rw [Nat.add_sub_cancel, Bool.and_eq_true, decide_eq_true_eq, decide_eq_true_eq, ← e2]
  generalize 256 ^ i = p
  split <;> omega
theorem howM_bits {z : Int} (hz : z.natAbs < 128 * 256 ^ 1000) : howM z 1300 1 = Builtin.Int.intBits (xof z) / 8 + 1 := by
  have f1 := fits_bound hz
  rw [fits_x] at f1
  have b1 : Builtin.Int.intBits (xof z) ≤ 8 * 1000 + 7 := bits_lt.mpr f1
  have f2 : fitsI z (Builtin.Int.intBits (xof z) / 8 + 1) = true := (fits_x z _).mpr (bits_lt.mp (by omega))
  obtain ⟨h1, h2⟩ := howM_fits z 1300 1 (Builtin.Int.intBits (xof z) / 8 + 1) (by omega) (by omega) f2
  have h3 := (howM_le z 1300 1).1
  obtain ⟨j, hj⟩ : ∃ j, howM z 1300 1 = j + 1 := ⟨howM z 1300 1 - 1, by omega⟩
  rw [hj] at h1 h2 ⊢
  have b2 : Builtin.Int.intBits (xof z) ≤ 8 * j + 7 := bits_lt.mpr ((fits_x z j).mp h2)
  omega
theorem octs_step {n : Int} {k i : Nat} (h : i < k) : (octs n k).take (i + 1) = (octs n k).take i ++ [n / 2 ^ (8 * (k - 1 - i)) % 256] := by
  rw [List.take_succ, octs_get n k i h, Int.pow_mul]
  rfl
section
variable {P : Program} {w : World} {K : PySem.W.Frag} {mg : Str → Option Value} {base : Heap} {f : Addr} {fd : FuncData}
theorem ok_signed_digits (F : FunD K "signed_digits" "signed_digits" (defArgs s_signed_digits) (defBody s_signed_digits) (defScope s_signed_digits) [] [] (glAd "signed_digits" K) fd) (m : mg "signed_digits" = some (.ref (glAd "signed_digits" K))) (nb : Nm K mg) (c_digits_of : Cal P w K mg base 1 "digits_of" (sp_digits_of K) []) : Cal P w K mg base 2 "signed_digits" (sp_signed_digits K) [] := by
  refine calD F m sc_signed_digits (fun _ _ _ _ _ _ us hl => match us, hl with | [_], _ => rfl) len1 (fun cdv A outer s H vs Q E hr h => ⟨_, (pss_cons (ps_set (i := 1) sc_signed_digits.nd rfl (Or.inl rfl) (pe_ifExp (pt_cmpR op_lt (pv 0) pe_int (nomark _)) pe_str pe_str))
    (pss_one (ps_ret (pe_op op_add_str (pv 1) (pe_c c_digits_of hr (by decide) rfl (pa_cons (pe_callB call_abs (by rfl) nb.abs (by decide +kernel) (pa_cons (pv 0) pa_nil)) pa_nil)))))), ?_⟩)
  obtain ⟨_, rfl, m, rfl, hm, h⟩ := h
  walk_at "rd"
  refine r_iteJ (.str (S (sgn m))) (fun c R hR => ?_) (fun c R hR => ?_) ?_
  · have e : S (sgn m) = "-" := by
      unfold sgn
      rw [if_pos c]
      decide +kernel
    rw [e] at hR
    exact hR
  · have e : S (sgn m) = "" := by
      unfold sgn
      rw [if_neg c]
      decide +kernel
    rw [e] at hR
    exact hR
  walk_at "rd"
  refine ⟨_, rfl, m.natAbs, congrArg V.int abs_nat27, Nat.lt_trans hm (Nat.pow_lt_pow_right (by decide) (by decide)), fun H2 s2 => ?_⟩
  have l1 := dg_lenP hm
  have l2 : (sgn m).length ≤ 1 := by
    unfold sgn
    split <;> simp
  refine r_add rfl rfl (by clear hm; omega) ?_
  rw [S_cat]
  exact h H2 s2
theorem ok_in_ascii (F : FunD K "in_ascii" "in_ascii" (defArgs s_in_ascii) (defBody s_in_ascii) (defScope s_in_ascii) [] [] (glAd "in_ascii" K) fd) (m : mg "in_ascii" = some (.ref (glAd "in_ascii" K))) (nb : Nm K mg) : Cal P w K mg base 1 "in_ascii" (sp_in_ascii K) [] := by
  refine calD F m sc_in_ascii (fun _ _ _ _ _ _ us hl => match us, hl with | [_], _ => rfl) len1 (fun cdv A outer s H vs Q E hr h => ⟨_, (pss_one (ps_ret (pe_lc (own := [("character", 1)]) (g := gName 1) (tt := tYes) rfl sc_in_ascii.nd (pi_str (pv 0)) (blkOk_by (N := ["string", "character"]) (sc := defScope s_in_ascii) (by decide +kernel)) (fun _ _ _ _ _ => pg_name (i := 1) sc_in_ascii.nd rfl (Or.inl rfl)) (fun _ _ _ _ _ => pts_nil) (fun _ _ _ _ _ => (pe_callB call_ord (by rfl) nb.ord (by decide +kernel) (pa_cons (pv 1) pa_nil)))))), ?_⟩)
  obtain ⟨_, rfl, x, rfl, hx, h⟩ := h
  walk_at "rd"
  refine r_lcS (x := S x) rfl (fun D i H' => H' D = some (.lst ((asc (x.take i)).map V.int)) ∧ ∀ b u, b ≠ D → H b = some u → H' b = some u) (fun D hD => ⟨upd_same, fun b u n z => (upd_ne n).trans z⟩) ?_ ?_
  · rintro D i c H' hD hc ⟨g1, g2⟩
    walk_at "rd"
    refine ⟨rfl, ?_⟩
    walk_at "rd"
    have hx2 : x[i]? = some c := by
      have := hc
      rw [S_at] at this
      exact this
    refine ⟨_, rfl, rfl, _, g1, small_asc hx i, ?_, fun b u n z => (upd_ne n).trans (g2 b u n z)⟩
    rw [upd_same, List.take_succ, hx2]
    unfold asc
    rw [List.map_append, List.map_append]
    rfl
  · rintro D H' hD ⟨g1, g2⟩
    have e : x.take (S x).cps.size = x := List.take_of_length_le (Nat.le_of_eq (S_size x).symm)
    rw [e] at g1
    exact h D H' hD g1 fun b u z => g2 b u (fun e => by rw [e, hD] at z; cases z) z
theorem ok_wide (F : FunD K "wide" "wide" (defArgs s_wide) (defBody s_wide) (defScope s_wide) [] [] (glAd "wide" K) fd) (m : mg "wide" = some (.ref (glAd "wide" K))) (nb : Nm K mg) : Cal P w K mg base 1 "wide" (sp_wide K) [] := by
  refine calD F m sc_wide (fun _ _ _ _ _ _ us hl => match us, hl with | [_, _], _ => rfl) len2 (fun cdv A outer s H vs Q E hr h => ⟨_, (pss_one (ps_ret (pe_lc (own := [("shift", 2)]) (g := gName 2) (tt := tYes) rfl sc_wide.nd (pi_range3 rfl nb.range (pa_cons (pe_op op_sub (pe_op op_mul pe_int (pv 1)) pe_int) (pa_cons (pe_un un_neg pe_int) (pa_cons (pe_un un_neg pe_int) pa_nil)))) (blkOk_by (N := ["n", "many", "shift"]) (sc := defScope s_wide) (by decide +kernel)) (fun _ _ _ _ _ => pg_name (i := 2) sc_wide.nd rfl (Or.inl rfl)) (fun _ _ _ _ _ => pts_nil) (fun _ _ _ _ _ => (pe_op op_andM (pe_op op_shr (pv 0) (pv 2)) pe_int))))), ?_⟩)
  obtain ⟨_, _, rfl, n, k, rfl, rfl, hk, h⟩ := h
  walk_at "rd"
  refine r_lc3 ?_
  walk_at "rd"
  refine ⟨_, _, _, k, rfl, rgM k hk, fun D hD => lc_rangeC (fun i H' => H' D = some (.lst (((octs n k).take i).map V.int)) ∧ ∀ b u, b ≠ D → H b = some u → H' b = some u) ⟨upd_same, fun b u n z => (upd_ne n).trans z⟩ ?_ ?_⟩
  · rintro i H' hi ⟨g1, g2⟩
    walk_at "rd"
    refine ⟨rfl, ?_⟩
    walk_at "rd"
    refine r_I (C := fun _ j => 0 ≤ j) (show 0 ≤ 8 * (k : Int) - 8 + (i : Int) * -8 by omega) ?_
    walk_at "rd"
    refine ⟨_, 8, rfl, rfl, _, g1, small4k (by rw [List.length_map, List.length_take, octs_len]; omega), ?_, fun b u m z => (upd_ne m).trans (g2 b u m z)⟩
    rw [upd_same, octs_step hi, ← map_snoc, show (8 * (k : Int) - 8 + (i : Int) * -8).toNat = 8 * (k - 1 - i) by omega]
    rfl
  · rintro H' ⟨g1, g2⟩
    rw [List.take_of_length_le (Nat.le_of_eq (octs_len n k))] at g1
    exact h D H' hD g1 fun b u z => g2 b u (fun e => by rw [e, hD] at z; cases z) z
theorem ok_shortest (F : FunD K "shortest" "shortest" (defArgs s_shortest) (defBody s_shortest) (defScope s_shortest) [] [] (glAd "shortest" K) fd) (m : mg "shortest" = some (.ref (glAd "shortest" K))) (nb : Nm K mg) (c_wide : Cal P w K mg base 1 "wide" (sp_wide K) []) : Cal P w K mg base 2 "shortest" (sp_shortest K) [] := by
  refine calD F m sc_shortest (fun _ _ _ _ _ _ us hl => match us, hl with | [_], _ => rfl) len1 (fun cdv A outer s H vs Q E hr h => ⟨_, (pss_one (ps_ret (pe_c c_wide hr (by decide) rfl (pa_cons (pv 0) (pa_cons (pe_op op_fdiv (pe_op op_add (pe_bits (pv 0)) pe_int) pe_int) pa_nil))))), ?_⟩)
  obtain ⟨_, rfl, n, rfl, h0, h1, h⟩ := h
  walk_at "rd"
  refine ⟨_, rfl, ?_⟩
  refine ⟨_, rfl, ?_⟩
  walk_at "rd"
  have := short_bits h0 h1
  refine ⟨_, _, rfl, n, if n < 256 then 1 else if n < 65536 then 2 else 3, rfl, congrArg V.int (by omega), by split <;> (try split) <;> omega, h⟩
theorem ok_shortest_signed (F : FunD K "shortest_signed" "shortest_signed" (defArgs s_shortest_signed) (defBody s_shortest_signed) (defScope s_shortest_signed) [] [] (glAd "shortest_signed" K) fd) (m : mg "shortest_signed" = some (.ref (glAd "shortest_signed" K))) (nb : Nm K mg) (c_wide : Cal P w K mg base 1 "wide" (sp_wide K) []) : Cal P w K mg base 2 "shortest_signed" (sp_shortest_signed K) [] := by
  refine calD F m sc_shortest_signed (fun _ _ _ _ _ _ us hl => match us, hl with | [_], _ => rfl) len1 (fun cdv A outer s H vs Q E hr h => ⟨_, (pss_cons (ps_set (i := 1) sc_shortest_signed.nd rfl (Or.inl rfl) (pe_ifExp (pt_cmpR op_ge (pv 0) pe_int (nomark _)) (pe_bits (pv 0)) (pe_bits (pe_op op_sub (pe_un un_neg pe_int) (pv 0)))))
    (pss_one (ps_ret (pe_c c_wide hr (by decide) rfl (pa_cons (pv 0) (pa_cons (pe_op op_add (pe_op op_fdiv (pv 1) pe_int) pe_int) pa_nil)))))), ?_⟩)
  obtain ⟨_, rfl, z, rfl, hz, h⟩ := h
  have hm := howM_bits hz
  have hm2 : howM z 1300 1 ≤ 1301 := (howM_le z 1300 1).2
  have e : intO z = octs z (Builtin.Int.intBits (xof z) / 8 + 1) := by
    unfold intO
    rw [hm]
  rw [e] at h
  rw [hm] at hm2
  clear hm e
  walk_at "rd"
  refine r_ite (fun c => ?_) (fun c => ?_)
  · have ex : xof z = z := if_pos c
    rw [ex] at h hm2
    refine ⟨_, rfl, ?_⟩
    refine ⟨_, rfl, ?_⟩
    walk_at "rd"
    exact ⟨_, _, rfl, z, _, rfl, congrArg V.int (by omega), by omega, h⟩
  · have ex : xof z = -1 - z := if_neg c
    rw [ex] at h hm2
    refine r_bits ?_
    walk_at "rd"
    refine ⟨_, rfl, ?_⟩
    walk_at "rd"
    exact ⟨_, _, rfl, z, _, rfl, congrArg V.int (by omega), by omega, h⟩
theorem ok_element (F : FunD K "element" "element" (defArgs s_element) (defBody s_element) (defScope s_element) [] [] (glAd "element" K) fd) (m : mg "element" = some (.ref (glAd "element" K))) (nb : Nm K mg) (c__length_octets : Cal P w K mg base 3 "_length_octets" (sp__length_octets K) []) : Cal P w K mg base 4 "element" (sp_element K) [] := by
  refine calD F m sc_element (fun _ _ _ _ _ _ us hl => match us, hl with | [_, _], _ => rfl) len2 (fun cdv A outer s H vs Q E hr h => ⟨_, (pss_one (ps_ret (pe_op op_cat (pe_op op_cat (pe_lst (pa_cons (pv 0) pa_nil)) (pe_c c__length_octets hr (by decide) rfl (pa_cons (pe_callB call_len_seq (by rfl) nb.len PySem.boot_len (pa_cons (pv 1) pa_nil)) pa_nil))) (pv 1)))), ?_⟩)
  obtain ⟨_, _, rfl, t, p, c, rfl, rfl, hp, hc, h⟩ := h
  have hl := lenO_len c.length
  walk_at "rd"
  refine ⟨by show 1 ≤ sizeLine; decide, fun q nq => ?_⟩
  obtain ⟨H1, e, s1, g1⟩ := new_o (o := .lst ([t].map V.int)) nq
  rw [show (HO.lst [V.int t]) = .lst ([t].map V.int) from rfl, e]
  clear e
  walk_at "rd"
  refine ⟨p, _, rfl, .inl (SqL.of (s1 _ _ hp)), ?_⟩
  rw [List.length_map]
  walk_at "rd"
  refine ⟨_, rfl, c.length, rfl, by omega, fun p2 H2 n2 g2 s2 => ?_⟩
  refine r_catB (s2 _ _ g1) g2 (by show 1 + _ ≤ _; omega) fun p3 H3 n3 g3 s3 => ?_
  walk_at "rd"
  refine r_catB g3 ((s1.trans s2).trans s3 _ _ hp) (by rw [List.length_append]; show 1 + _ + _ ≤ _; omega) fun p4 H4 n4 g4 s4 => ?_
  exact h p4 H4 (((s1.trans s2).trans s3).free n4) g4 (((s1.trans s2).trans s3).trans s4)
theorem ok__length_octets (F : FunD K "_length_octets" "_length_octets" (defArgs s__length_octets) (defBody s__length_octets) (defScope s__length_octets) [] [] (glAd "_length_octets" K) fd) (m : mg "_length_octets" = some (.ref (glAd "_length_octets" K))) (nb : Nm K mg) (c_shortest : Cal P w K mg base 2 "shortest" (sp_shortest K) []) : Cal P w K mg base 3 "_length_octets" (sp__length_octets K) [] := by
  refine calD F m sc__length_octets (fun _ _ _ _ _ _ us hl => match us, hl with | [_], _ => rfl) len1 (fun cdv A outer s H vs Q E hr h => ⟨_, (pss_cons (ps_if (pt_cmpR op_lt (pv 0) (pe_gc rfl nb.g_INDEFINITE) (nomark _))
    (pss_one (ps_ret (pe_lst (pa_cons (pv 0) pa_nil))))
    pss_nil)
    (pss_cons (ps_set (i := 1) sc__length_octets.nd rfl (Or.inl rfl) (pe_c c_shortest hr (by decide) rfl (pa_cons (pv 0) pa_nil)))
    (pss_one (ps_ret (pe_op op_cat (pe_lst (pa_cons (pe_op op_add (pe_gc rfl nb.g_INDEFINITE) (pe_callB call_len_seq (by rfl) nb.len PySem.boot_len (pa_cons (pv 1) pa_nil))) pa_nil)) (pv 1)))))), ?_⟩)
  obtain ⟨_, rfl, n, rfl, hn, h⟩ := h
  have e1 : (n : Int) < 128 → lenO n = [(n : Int)] := fun c => if_pos (by omega)
  have e2 : ¬ (n : Int) < 128 → (n : Int) < 256 → lenO n = [129, (n : Int)] := fun c1 c2 => (if_neg (by omega)).trans (if_pos (by omega))
  have e3 : ¬ (n : Int) < 128 → ¬ (n : Int) < 256 → (n : Int) < 65536 → lenO n = [130, (n : Int) / 256, (n : Int) % 256] := fun c1 c2 c3 => (if_neg (by omega)).trans ((if_neg (by omega)).trans (if_pos (by omega)))
  have e4 : ¬ (n : Int) < 128 → ¬ (n : Int) < 256 → ¬ (n : Int) < 65536 → lenO n = [131, (n : Int) / 65536, (n : Int) / 256 % 256, (n : Int) % 256] := fun c1 c2 c3 => (if_neg (by omega)).trans ((if_neg (by omega)).trans (if_neg (by omega)))
  have hz : (n : Int) < 16777216 := by omega
  clear hn
  generalize (n : Int) = z at e1 e2 e3 e4 hz ⊢
  walk_at "rd"
  refine r_ite (fun c => ?_) (fun c => ?_)
  · rw [e1 c] at h
    walk_at "rd"
    exact ⟨by show 1 ≤ sizeLine; decide, fun p hp => out_new h hp⟩
  walk_at "rd"
  refine ⟨_, rfl, z, rfl, by omega, hz, fun p2 H2 n2 g2 s2 => ?_⟩
  walk_at "rd"
  refine ⟨p2, _, rfl, .inl (SqL.of g2), ?_⟩
  rw [List.length_map, octs_len]
  walk_at "rd"
  refine ⟨by show 1 ≤ sizeLine; decide, fun p3 n3 => ?_⟩
  have el : lenO n = [128 + ((if z < 256 then 1 else if z < 65536 then 2 else 3 : Nat) : Int)] ++ octs z (if z < 256 then 1 else if z < 65536 then 2 else 3) := by
    by_cases c2 : z < 256
    · rw [e2 c c2, if_pos c2]
      show [129, z] = [128 + 1, z / 1 % 256]
      rw [show z / 1 % 256 = z by omega]
      rfl
    · by_cases c3 : z < 65536
      · rw [e3 c c2 c3, if_neg c2, if_pos c3]
        show [130, z / 256, z % 256] = [128 + 2, z / 256 % 256, z / 1 % 256]
        rw [show z / 256 % 256 = z / 256 by omega, show z / 1 % 256 = z % 256 by omega]
        rfl
      · rw [e4 c c2 c3, if_neg c2, if_neg c3]
        show [131, z / 65536, z / 256 % 256, z % 256] = [128 + 3, z / 65536 % 256, z / 256 % 256, z / 1 % 256]
        rw [show z / 65536 % 256 = z / 65536 by omega, show z / 1 % 256 = z % 256 by omega]
        rfl
  rw [el] at h
  have hL : (if z < 256 then 1 else if z < 65536 then 2 else 3 : Nat) ≤ 3 := by split <;> (try split) <;> omega
  clear el e1 e2 e3 e4
  generalize (if z < 256 then 1 else if z < 65536 then 2 else 3 : Nat) = L at h hL g2 ⊢
  obtain ⟨H3, e, s3, g3⟩ := new_o (o := .lst ([128 + (L : Int)].map V.int)) n3
  rw [show (HO.lst [V.int (128 + (L : Int))]) = .lst ([128 + (L : Int)].map V.int) from rfl, e]
  clear e
  walk_at "rd"
  refine r_catB g3 (s3 _ _ g2) (by rw [octs_len]; show 1 + _ ≤ _; omega) fun p4 H4 n4 g4 s4 => ?_
  exact h p4 H4 ((s2.trans s3).free n4) g4 ((s2.trans s3).trans s4)
end

def sp__encode_long (K : Frg) : Sp := sp1 fun p H Q _ => ∃ c, p = .int c ∧ 128 ≤ c ∧ c ≤ 1114111 ∧ ∀ l H', H l = none → H' l = some (.lst ((enc1 c).map V.int)) → Same H H' → Q (.ref l) H'
def sp_encode (K : Frg) : Sp := sp1 fun p H Q _ => ∃ a cs, p = .ref a ∧ RowAt H a cs ∧ (∀ c ∈ cs, Point c) ∧ 4 * cs.length < sizeLine ∧ ∀ l H', H l = none → H' l = some (.lst ((encs cs).map V.int)) → Same H H' → Q (.ref l) H'
abbrev s__encode_long : Stmt := (top 25)
theorem sc__encode_long : FnScope ["point", "many", "octets", "shift"] ["point"] (defScope s__encode_long) := ⟨rfl, rfl, rfl, by decide +kernel, rfl, by decide +kernel, by decide +kernel⟩
abbrev s_encode : Stmt := (top 24)
theorem sc_encode : FnScope ["points", "octets", "point"] ["points"] (defScope s_encode) := ⟨rfl, rfl, rfl, by decide +kernel, rfl, by decide +kernel, by decide +kernel⟩
section
variable {P : Program} {w : World} {K : PySem.W.Frag} {mg : Str → Option Value} {base : Heap} {f : Addr} {fd : FuncData}
theorem ok__encode_long (F : FunD K "_encode_long" "_encode_long" (defArgs s__encode_long) (defBody s__encode_long) (defScope s__encode_long) [] [] (glAd "_encode_long" K) fd) (m : mg "_encode_long" = some (.ref (glAd "_encode_long" K))) (nb : Nm K mg) : Cal P w K mg base 1 "_encode_long" (sp__encode_long K) [] := by
  obtain ⟨v_MARKS, u_MARKS, e_MARKS, r_MARKS, k_MARKS⟩ := nb.g_MARKS
  refine calD F m sc__encode_long (fun _ _ _ _ _ _ us hl => match us, hl with | [_], _ => rfl) len1 (fun cdv A outer s H vs Q E hr h => ⟨_, (pss_cons (ps_set (i := 1) sc__encode_long.nd rfl (Or.inl rfl) (pe_ifExp (pt_cmpR op_lt (pv 0) pe_int (nomark _)) pe_int (pe_ifExp (pt_cmpR op_lt (pv 0) pe_int (nomark _)) pe_int pe_int)))
    (pss_cons (ps_set (i := 2) sc__encode_long.nd rfl (Or.inl rfl) (pe_lst (pa_cons (pe_op op_add (pe_ix ix_tup (pe_gc rfl ⟨u_MARKS, e_MARKS, r_MARKS⟩) (pv 1) (fun _ _ => rfl)) (pe_op op_shr (pv 0) (pe_op op_mul pe_int (pv 1)))) pa_nil)))
    (pss_cons (ps_for PassesOwn.never rfl (pi_range3 rfl nb.range (pa_cons (pe_op op_sub (pe_op op_mul pe_int (pv 1)) pe_int) (pa_cons (pe_un un_neg pe_int) (pa_cons (pe_un un_neg pe_int) pa_nil)))) (pg_name (i := 3) sc__encode_long.nd rfl (Or.inl rfl))
    (pss_one (ps_expr (pe_bm PySem.F.plainAttrs_list PySem.F.slot_list_append PySem.F.type_list_append mt_append (pv 2) (pa_cons (pe_op op_add pe_int (pe_op op_mod (pe_op op_shr (pv 0) (pv 3)) pe_int)) pa_nil)))))
    (pss_one (ps_ret (pv 2)))))), ?_⟩)
  obtain ⟨_, rfl, c, rfl, c0, c1, h⟩ := h
  obtain ⟨tm, ys, rfl, hM, hE⟩ := dp_tup (k_MARKS H)
  have hE : ys = [0, 192, 224, 240].map V.int := dp_ints _ hE
  subst hE
  walk_at "rd"
  refine r_iteJ (.int (mm8 c)) ?_ ?_ ?_
  · intro c2 R hR
    unfold mm8 at hR
    rw [if_pos c2] at hR
    exact hR
  · intro c2 R hR
    unfold mm8 at hR
    rw [if_neg c2] at hR
    walk_at "rd"
    refine r_ite (fun c3 => ?_) (fun c3 => ?_)
    · rw [if_pos c3] at hR
      exact hR
    · rw [if_neg c3] at hR
      exact hR
  walk_at "rd"
  refine r_ixT hM (mark8_at (mm8 c) (mm8_is c)) ?_
  have hm := mm8_is c
  walk_at "rd"
  refine r_I (by omega) ?_
  walk_at "rd"
  refine ⟨by show 1 ≤ sizeLine; decide, fun l hl => ?_⟩
  have hL : upd H l (.lst [.int (mark8 (mm8 c) + c / 2 ^ (6 * mm8 c).toNat)]) l = some (.lst (((enc1 c).take 1).map V.int)) := by
    rw [upd_same, ← long_zero c0]
    rfl
  have hS := same_upd hl (.lst [.int (mark8 (mm8 c) + c / 2 ^ (6 * mm8 c).toNat)])
  generalize upd H l (.lst [.int (mark8 (mm8 c) + c / 2 ^ (6 * mm8 c).toNat)]) = H0 at hL hS ⊢
  walk_at "rd"
  refine ⟨_, _, _, (mm8 c).toNat, rfl, r_eachR (mm8 c).toNat (by rcases hm with e | e | e <;> rw [e] <;> exact ⟨by decide, by decide, by decide, by decide⟩)
    (fun i σ H' => ∃ y, σ = [some (.int c), some (.int (mm8 c)), some (.ref l), y] ∧ H' l = some (.lst (((enc1 c).take (i + 1)).map V.int)) ∧ Same H H') ⟨_, rfl, hL, hS⟩ ?_ ?_⟩
  · rintro i σ H1 hi ⟨y, rfl, g1, g2⟩
    walk_at "rd"
    refine ⟨tyL g1, ?_⟩
    walk_at "rd"
    refine r_I (by show 0 ≤ 6 * mm8 c - 6 + (i : Int) * (-6); rcases hm with e | e | e <;> rw [e] at hi ⊢ <;> (have : (i : Nat) < _ := hi; omega)) ?_
    walk_at "rd"
    refine r_appK g1 ?_ fun H5 hL5 f5 => ?_
    · refine Nat.lt_of_le_of_lt (m := 4) ?_ (by decide)
      rw [List.length_map]
      exact Nat.le_trans (List.length_take_le' _ _) (len_enc1 c).2
    · refine ⟨_, rfl, ?_, fun b u z => ?_⟩
      · rw [hL5, map_snoc, long_step c0 hi]
      · by_cases e : b = l
        · rw [e, hl] at z
          cases z
        · rw [f5 b e]
          exact g2 b u z
  · rintro σ H1 ⟨y, rfl, g1, g2⟩
    rw [long_all c0] at g1
    walk_at "rd"
    exact h l H1 hl g1 g2
theorem ok_encode (F : FunD K "encode" "encode" (defArgs s_encode) (defBody s_encode) (defScope s_encode) [] [] (glAd "encode" K) fd) (m : mg "encode" = some (.ref (glAd "encode" K))) (nb : Nm K mg) (c__encode_long : Cal P w K mg base 1 "_encode_long" (sp__encode_long K) []) : Cal P w K mg base 2 "encode" (sp_encode K) [] := by
  refine calD F m sc_encode (fun _ _ _ _ _ _ us hl => match us, hl with | [_], _ => rfl) len1 (fun cdv A outer s H vs Q E hr h => ⟨_, (pss_cons (ps_set (i := 1) sc_encode.nd rfl (Or.inl rfl) (pe_lst pa_nil))
    (pss_cons (ps_for PassesOwn.never rfl (pi_or (pi_list (pv 0)) (pi_tup (pv 0))) (pg_name (i := 2) sc_encode.nd rfl (Or.inl rfl))
    (pss_one (ps_if (pt_cmpR op_lt (pv 2) pe_int (nomark _))
    (pss_one (ps_expr (pe_bm PySem.F.plainAttrs_list PySem.F.slot_list_append PySem.F.type_list_append mt_append (pv 1) (pa_cons (pv 2) pa_nil))))
    (pss_one (ps_expr (pe_bm PySem.F.plainAttrs_list PySem.F.slot_list_extend PySem.F.type_list_extend mt_extend (pv 1) (pa_cons (pe_c c__encode_long hr (by decide) rfl (pa_cons (pv 2) pa_nil)) pa_nil)))))))
    (pss_one (ps_ret (pv 1))))), ?_⟩)
  obtain ⟨_, rfl, a, cs, rfl, hR, hc, hn, h⟩ := h
  walk_at "rd"
  refine ⟨by show 0 ≤ sizeLine; decide, fun l hl => ?_⟩
  have hL : upd H l (.lst []) l = some (.lst ((encs (cs.take 0)).map V.int)) := upd_same
  have hS := same_upd hl (.lst [])
  generalize upd H l (.lst []) = H0 at hL hS ⊢
  have hR0 := row_same hR hS
  walk_at "rd"
  have ha : ∀ u, H0 a = some u → a ≠ l := fun u z e => by
    have hx : ∃ u, H a = some u := hR.elim (fun h => ⟨_, h⟩) fun h => ⟨_, h⟩
    obtain ⟨u, hu⟩ := hx
    rw [e, hl] at hu
    cases hu
  refine r_eachRow rfl hR0 (fun i σ H' => ∃ y, σ = [some (.ref a), some (.ref l), y] ∧ H' l = some (.lst ((encs (cs.take i)).map V.int)) ∧ ∀ b u, b ≠ l → H0 b = some u → H' b = some u) ⟨_, rfl, hL, fun _ _ _ z => z⟩
    (fun i σ H' p u z => by
      obtain ⟨y, _, _, g⟩ := p
      exact g a u (ha u z) z) ?_ ?_
  · rintro i c σ H1 hi ⟨y, rfl, g1, g2⟩
    have hP := hc c (List.mem_of_getElem? hi)
    have hlen : (encs (cs.take i)).length ≤ 4 * cs.length := by
      have h1 := len_encs (cs.take i)
      have h2 := List.length_take_le' i cs
      omega
    have hi' : i < cs.length := (List.getElem?_eq_some_iff.mp hi).1
    have hlen2 : (encs (cs.take i)).length + 4 ≤ 4 * cs.length := by
      have h1 := len_encs (cs.take i)
      have h2 : (cs.take i).length ≤ i := List.length_take_le _ _
      omega
    walk_at "rd"
    refine r_ite (fun c1 => ?_) (fun c1 => ?_)
    · walk_at "rd"
      refine ⟨tyL g1, ?_⟩
      walk_at "rd"
      refine r_appK g1 (by rw [List.length_map]; omega) fun H5 hL5 f5 => ?_
      refine ⟨_, rfl, ?_, fun b u p z => ?_⟩
      · rw [hL5, map_snoc, ints_step hi, encs_snoc, enc_low c1]
      · rw [f5 b p]
        exact g2 b u p z
    · walk_at "rd"
      refine ⟨tyL g1, ?_⟩
      walk_at "rd"
      refine ⟨_, rfl, c, rfl, by omega, hP.2.1, fun p H2 hp hp2 s2 => ?_⟩
      have hpl : p ≠ l := fun e => by
        rw [e, g1] at hp
        cases hp
      refine ⟨l, p, _, _, rfl, rfl, s2 _ _ g1, hp2, ?_, ?_⟩
      · rw [List.length_map, List.length_map]
        have := (len_enc1 c).2
        omega
      · refine ⟨_, rfl, ?_, fun b u q z => ?_⟩
        · rw [upd_same, ints_step hi, encs_snoc, List.map_append]
        · rw [upd_ne q]
          exact s2 _ _ (g2 b u q z)
  · rintro σ H1 ⟨y, rfl, g1, g2⟩
    rw [List.take_length] at g1
    walk_at "rd"
    refine h l H1 hl g1 fun b u z => ?_
    have hbl : b ≠ l := fun e => by
      rw [e, hl] at z
      cases z
    exact g2 b u hbl (hS b u z)
end

/-! ### power -/
abbrev s_power : Stmt := (top 12)
theorem sc_power : FnScope ["base", "many", "worth"] ["base", "many"] (defScope s_power) := ⟨rfl, rfl, rfl, by decide +kernel, rfl, by decide +kernel, by decide +kernel⟩
def sp_power : Sp := sp2 fun a b H Q _ => ∃ (x : Int) (n : Nat), a = .int x ∧ b = .int (n : Int) ∧ x.natAbs < 16 ∧ n ≤ 100000 ∧ Q (.int (x ^ n)) H
section
variable {P : Program} {w : World} {K : PySem.W.Frag} {mg : Str → Option Value} {base : Heap} {f : Addr} {fd : FuncData}
theorem ok_power (F : FunD K "power" "power" (defArgs s_power) (defBody s_power) (defScope s_power) [] [] (glAd "power" K) fd) (m : mg "power" = some (.ref (glAd "power" K))) (nb : Nm K mg) : Cal P w K mg base 1 "power" sp_power [] := by
  refine calD F m sc_power (fun _ _ _ _ _ _ us hl => match us, hl with | [_, _], _ => rfl) len2 (fun cdv A outer s H vs Q E hr h => ⟨_, (pss_cons (ps_set (i := 2) sc_power.nd rfl (Or.inl rfl) pe_int)
    (pss_cons (ps_while PassesOwn.never (pt_cmpR op_gt (pv 1) pe_int (nomark _))
    (pss_cons (ps_if (pt_cmpR op_eq (pe_op op_mod (pv 1) pe_int) pe_int (nomark _))
    (pss_one (ps_set (i := 2) sc_power.nd rfl (Or.inl rfl) (pe_op op_mulX (pv 2) (pv 0))))
    pss_nil)
    (pss_cons (ps_set (i := 0) sc_power.nd rfl (Or.inl rfl) (pe_op op_mulX (pv 0) (pv 0)))
    (pss_one (ps_set (i := 1) sc_power.nd rfl (Or.inl rfl) (pe_op op_fdiv (pv 1) pe_int))))))
    (pss_one (ps_ret (pv 2))))), ?_⟩)
  obtain ⟨_, _, rfl, x, n, rfl, rfl, hx, hn, h⟩ := h
  walk_at "rd"
  refine r_while (fun k σ H' => H = H' ∧ ∃ c d : Nat, σ = [some (.int (x ^ c)), some (.int (k : Int)), some (.int (x ^ d))] ∧ d + c * k = n ∧ c ≤ 2 * n + 1) n ⟨rfl, 1, 0, by rw [Int.pow_one, Int.pow_zero] <;> rfl, by omega, by omega⟩ ?_
  rintro k σ _ ⟨rfl, c, d, rfl, h1, h2⟩
  walk_at "rd"
  refine r_ite (fun c2 => ?_) (fun c2 => ?_)
  · have h3 : c ≤ n := by
      have h4 : c * 1 ≤ c * k := Nat.mul_le_mul_left c (by omega)
      omega
    have hb := pow_bits hx c
    have hd := pow_bits hx d
    refine r_turn ?_
    walk_at "rd"
    refine r_ite (fun c3 => ?_) (fun c3 => ?_)
    · walk_at "rd"
      refine r_I (mulx_ok hd hb (by omega)) ?_
      walk_at "rd"
      refine r_I (mulx_ok hb hb (by omega)) ?_
      walk_at "rd"
      have e1 : k = 2 * (k / 2) + 1 := by omega
      refine ⟨k / 2, by omega, rfl, c + c, d + c, ?_, ?_, by omega⟩
      · rw [Int.pow_add, Int.pow_add]
        rfl
      · have e2 : c * k = c * (2 * (k / 2)) + c := by
          conv => lhs; rw [e1]
          rw [Nat.mul_add, Nat.mul_one]
        have e3 : (c + c) * (k / 2) = c * (2 * (k / 2)) := by
          rw [← Nat.two_mul, Nat.mul_comm 2 c, Nat.mul_assoc]
        omega
    · walk_at "rd"
      refine r_I (mulx_ok hb hb (by omega)) ?_
      walk_at "rd"
      have e1 : k = 2 * (k / 2) := by omega
      refine ⟨k / 2, by omega, rfl, c + c, d, ?_, ?_, by omega⟩
      · rw [Int.pow_add]
        rfl
      · have e2 : c * k = c * (2 * (k / 2)) := by
          conv => lhs; rw [e1]
        have e3 : (c + c) * (k / 2) = c * (2 * (k / 2)) := by
          rw [← Nat.two_mul, Nat.mul_comm 2 c, Nat.mul_assoc]
        omega
  · have e : k = 0 := by omega
    subst e
    walk_at "rd"
    have e2 : d = n := by omega
    rw [e2]
    exact h
end

/-! ### whole -/
abbrev s_whole : Stmt := (top 13)
theorem sc_whole : FnScope ["m", "e", "most"] ["m", "e", "most"] (defScope s_whole) := ⟨rfl, rfl, rfl, by decide +kernel, rfl, by decide +kernel, by decide +kernel⟩
def sp_whole : Sp := sp3 fun a b c H Q _ => ∃ m e t : Int, a = .int m ∧ b = .int e ∧ c = .int t ∧ t ≤ 1000 ∧ m.natAbs < 2 ^ 1000000 ∧ (0 ≤ e ∧ e ≤ t → Q (.int (m * 10 ^ e.toNat)) H) ∧ (¬ (0 ≤ e ∧ e ≤ t) → Q .non H)
section
variable {P : Program} {w : World} {K : PySem.W.Frag} {mg : Str → Option Value} {base : Heap} {f : Addr} {fd : FuncData}
theorem ok_whole (F : FunD K "whole" "whole" (defArgs s_whole) (defBody s_whole) (defScope s_whole) [] [] (glAd "whole" K) fd) (m : mg "whole" = some (.ref (glAd "whole" K))) (nb : Nm K mg) (c_power : Cal P w K mg base 1 "power" sp_power []) : Cal P w K mg base 2 "whole" sp_whole [] := by
  refine calD F m sc_whole (fun _ _ _ _ _ _ us hl => match us, hl with | [_, _, _], _ => rfl) len3 (fun cdv A outer s H vs Q E hr h => ⟨_, (pss_cons (ps_if (pt_chain op_le op_le pe_int (pv 1) (pv 2))
    (pss_one (ps_ret (pe_op op_mulX (pv 0) (pe_c c_power hr (by decide) rfl (pa_cons pe_int (pa_cons (pv 1) pa_nil))))))
    pss_nil)
    (pss_one (ps_ret pe_non))), ?_⟩)
  obtain ⟨_, _, _, rfl, m, e, t, rfl, rfl, rfl, ht, hm, h1, h2⟩ := h
  walk_at "rd"
  refine r_ite (fun c1 => ?_) (fun c1 => ?_)
  · walk_at "rd"
    refine r_ite (fun c2 => ?_) (fun c2 => ?_)
    · walk_at "rd"
      refine ⟨_, _, rfl, 10, e.toNat, rfl, congrArg V.int (by omega), by decide, by omega, ?_⟩
      refine r_I (mulx_ok hm (pow_bits (by decide) _) (by omega)) ?_
      exact h1 ⟨c1, c2⟩
    · walk_at "rd"
      exact h2 (by omega)
  · walk_at "rd"
    exact h2 (by omega)
end

abbrev s_key_octets : Stmt := (top 34)
theorem sc_key_octets : FnScope ["points"] ["points"] (defScope s_key_octets) := ⟨rfl, rfl, rfl, by decide +kernel, rfl, by decide +kernel, by decide +kernel⟩
abbrev s__number_octets : Stmt := (top 35)
theorem sc__number_octets : FnScope ["m", "e", "integer"] ["m", "e"] (defScope s__number_octets) := ⟨rfl, rfl, rfl, by decide +kernel, rfl, by decide +kernel, by decide +kernel⟩
abbrev s_leaf_octets : Stmt := (top 33)
theorem sc_leaf_octets : FnScope ["value"] ["value"] (defScope s_leaf_octets) := ⟨rfl, rfl, rfl, by decide +kernel, rfl, by decide +kernel, by decide +kernel⟩
def sp_key_octets (K : Frg) : Sp := sp1 fun a H Q _ => ∃ (p : Addr) (ps : List Int), a = .ref p ∧ H p = some (.tup (ps.map V.int)) ∧ Pts ps ∧ Out H (elem 12 (utf8 ps)) Q
def sp__number_octets (K : Frg) : Sp := sp2 fun a b H Q _ => ∃ m e : Int, a = .int m ∧ b = .int e ∧ m.natAbs < 10 ^ 2100 ∧ e.natAbs < 10 ^ 1000 ∧ Out H (numO m e) Q
def sp_leaf_octets (K : Frg) : Sp := sp__law_leaf_written K
section
variable {P : Program} {w : World} {K : PySem.W.Frag} {mg : Str → Option Value} {base : Heap} {f : Addr} {fd : FuncData}
theorem ok_key_octets (F : FunD K "key_octets" "key_octets" (defArgs s_key_octets) (defBody s_key_octets) (defScope s_key_octets) [] [] (glAd "key_octets" K) fd) (m : mg "key_octets" = some (.ref (glAd "key_octets" K))) (nb : Nm K mg) (c_encode : Cal P w K mg base 2 "encode" (sp_encode K) []) (c_element : Cal P w K mg base 4 "element" (sp_element K) []) : Cal P w K mg base 5 "key_octets" (sp_key_octets K) [] := by
  refine calD F m sc_key_octets (fun _ _ _ _ _ _ us hl => match us, hl with | [_], _ => rfl) len1 (fun cdv A outer s H vs Q E hr h => ⟨_, (pss_one (ps_ret (pe_c c_element hr (by decide) rfl (pa_cons (pe_gc rfl nb.g_TEXT) (pa_cons (pe_c c_encode hr (by decide) rfl (pa_cons (pv 0) pa_nil)) pa_nil))))), ?_⟩)
  obtain ⟨_, rfl, p, ps, rfl, hp, hP, h⟩ := h
  have hl := hP.1
  have hl2 := utf8_len ps
  walk_at "rd"
  refine ⟨_, rfl, p, ps, rfl, .inr hp, fun c hc => ?_, ?_, fun p2 H2 n2 g2 s2 => ?_⟩
  · have := hP.2 c hc
    exact ⟨this.1, by omega, trivial⟩
  · refine Nat.lt_of_le_of_lt (m := 1040) (by omega) (by decide)
  walk_at "rd"
  exact ⟨_, _, rfl, 12, p2, utf8 ps, rfl, rfl, g2, by omega, h.same s2⟩
theorem ok__number_octets (F : FunD K "_number_octets" "_number_octets" (defArgs s__number_octets) (defBody s__number_octets) (defScope s__number_octets) [] [] (glAd "_number_octets" K) fd) (m : mg "_number_octets" = some (.ref (glAd "_number_octets" K))) (nb : Nm K mg) (c_whole : Cal P w K mg base 2 "whole" sp_whole []) (c_signed_digits : Cal P w K mg base 2 "signed_digits" (sp_signed_digits K) []) (c_in_ascii : Cal P w K mg base 1 "in_ascii" (sp_in_ascii K) []) (c_shortest_signed : Cal P w K mg base 2 "shortest_signed" (sp_shortest_signed K) []) (c_element : Cal P w K mg base 4 "element" (sp_element K) []) : Cal P w K mg base 5 "_number_octets" (sp__number_octets K) [] := by
  refine calD F m sc__number_octets (fun _ _ _ _ _ _ us hl => match us, hl with | [_, _], _ => rfl) len2 (fun cdv A outer s H vs Q E hr h => ⟨_, (pss_cons (ps_set (i := 2) sc__number_octets.nd rfl (Or.inl rfl) (pe_c c_whole hr (by decide) rfl (pa_cons (pv 0) (pa_cons (pv 1) (pa_cons (pe_gc rfl nb.g_LARGEST_SCALE) pa_nil)))))
    (pss_cons (ps_if (pt_cmpR op_notN (pv 2) pe_non (nomark _))
    (pss_one (ps_ret (pe_c c_element hr (by decide) rfl (pa_cons (pe_gc rfl nb.g_INTEGER) (pa_cons (pe_c c_shortest_signed hr (by decide) rfl (pa_cons (pv 2) pa_nil)) pa_nil)))))
    pss_nil)
    (pss_one (ps_ret (pe_c c_element hr (by decide) rfl (pa_cons (pe_gc rfl nb.g_DECIMAL) (pa_cons (pe_op op_cat (pe_lst (pa_cons (pe_gc rfl nb.g_WITH_EXPONENT) pa_nil)) (pe_c c_in_ascii hr (by decide) rfl (pa_cons (pe_op op_add_str (pe_op op_add_str (pe_c c_signed_digits hr (by decide) rfl (pa_cons (pv 0) pa_nil)) pe_str) (pe_c c_signed_digits hr (by decide) rfl (pa_cons (pv 1) pa_nil))) pa_nil))) pa_nil))))))), ?_⟩)
  obtain ⟨_, _, rfl, m, e, rfl, rfl, hm, he, h⟩ := h
  walk_at "rd"
  have hb : m.natAbs < 2 ^ 1000000 := Nat.lt_of_lt_of_le (abs10 hm) (Nat.pow_le_pow_right (by decide) (by decide))
  refine ⟨_, _, _, rfl, m, e, 64, rfl, rfl, rfl, by decide, hb, fun c => ?_, fun c => ?_⟩
  · clear hb
    have e1 : numO m e = elem 2 (intO (m * 10 ^ e.toNat)) := if_pos c
    rw [e1] at h
    walk_at "rd"
    rw [if_pos (by rw [decide_eq_false (fun q => by cases q)]; rfl)]
    walk_at "rd"
    refine ⟨_, rfl, _, rfl, num_big hm c.2, fun p2 H2 n2 g2 s2 => ?_⟩
    walk_at "rd"
    exact ⟨_, _, rfl, 2, p2, _, rfl, rfl, g2, Nat.le_trans (intO_len (b := 1000) (num_big hm c.2) (by decide)) (by decide), h.same s2⟩
  · clear hb
    have e1 : numO m e = elem 9 (decO m e) := if_neg c
    rw [e1] at h
    walk_at "rd"
    refine r_no rfl ?_
    walk_at "rd"
    have lm := sdg_len hm
    have le := sdg_len he
    refine ⟨by show 1 ≤ sizeLine; decide, fun q2 n2 => ?_⟩
    obtain ⟨H3, e3, s3, g3⟩ := new_o (o := .lst ([3].map V.int)) n2
    rw [show (HO.lst [V.int 3]) = .lst ([3].map V.int) from rfl, e3]
    clear e3
    walk_at "rd"
    refine ⟨_, rfl, m, rfl, hm, fun H4 s4 => ?_⟩
    walk_at "rd"
    refine r_add (x := S (sdg m)) (y := ".E") rfl lit_E (by show _ + 2 ≤ _; clear hm he; omega) ?_
    walk_at "rd"
    refine ⟨_, rfl, e, rfl, Nat.lt_trans he (Nat.pow_lt_pow_right (by decide) (by decide)), fun H5 s5 => ?_⟩
    walk_at "rd"
    refine r_add (x := S (sdg m) ++ S [46, 69]) (y := S (sdg e)) (a := sdg m ++ [46, 69]) (S_cat _ _) rfl (by rw [List.length_append]; show _ + 2 + _ ≤ _; clear hm he; omega) ?_
    walk_at "rd"
    have hlen : (sdg m ++ [46, 69] ++ sdg e).length ≤ 10000 := by
      rw [List.length_append, List.length_append]
      show _ + 2 + _ ≤ _
      clear hm he
      omega
    refine ⟨_, rfl, sdg m ++ [46, 69] ++ sdg e, congrArg V.str (S_cat _ _), hlen, fun p4 H6 n4 g4 s6 => ?_⟩
    walk_at "rd"
    refine r_catB ((s4.trans (s5.trans s6)) _ _ g3) g4 (by rw [asc_len]; show 1 + _ ≤ _; clear hm he; omega) fun p5 H7 n5 g5 s7 => ?_
    walk_at "rd"
    exact ⟨_, _, rfl, 9, p5, _, rfl, rfl, g5, (by rw [List.length_append, asc_len]; show 1 + _ ≤ _; clear hm he; omega), h.same ((s3.trans (s4.trans (s5.trans s6))).trans s7)⟩
theorem ok_leaf_octets (F : FunD K "leaf_octets" "leaf_octets" (defArgs s_leaf_octets) (defBody s_leaf_octets) (defScope s_leaf_octets) [] [] (glAd "leaf_octets" K) fd) (m : mg "leaf_octets" = some (.ref (glAd "leaf_octets" K))) (nb : Nm K mg) (c_element : Cal P w K mg base 4 "element" (sp_element K) []) (c_key_octets : Cal P w K mg base 5 "key_octets" (sp_key_octets K) []) (c__number_octets : Cal P w K mg base 5 "_number_octets" (sp__number_octets K) []) : Cal P w K mg base 6 "leaf_octets" (sp_leaf_octets K) [] := by
  refine calD F m sc_leaf_octets (fun _ _ _ _ _ _ us hl => match us, hl with | [_], _ => rfl) len1 (fun cdv A outer s H vs Q E hr h => ⟨_, (pss_cons (ps_if (pt_cmpR op_eq (pe_ix ix_tup (pv 0) pe_int (fun _ _ => rfl)) pe_str (nomark _))
    (pss_one (ps_ret (pe_c c__number_octets hr (by decide) rfl (pa_cons (pe_ix ix_tup (pv 0) pe_int (fun _ _ => rfl)) (pa_cons (pe_ix ix_tup (pv 0) pe_int (fun _ _ => rfl)) pa_nil)))))
    pss_nil)
    (pss_cons (ps_if (pt_cmpR op_eq (pe_ix ix_tup (pv 0) pe_int (fun _ _ => rfl)) pe_str (nomark _))
    (pss_one (ps_ret (pe_c c_element hr (by decide) rfl (pa_cons (pe_gc rfl nb.g_BYTES) (pa_cons (pe_callTy call_list_of (by rfl) nb.list (by decide +kernel) (pa_cons (pe_ix ix_tup (pv 0) pe_int (fun _ _ => rfl)) pa_nil)) pa_nil)))))
    pss_nil)
    (pss_cons (ps_if (pt_cmpR op_eq (pe_ix ix_tup (pv 0) pe_int (fun _ _ => rfl)) pe_str (nomark _))
    (pss_one (ps_ret (pe_c c_key_octets hr (by decide) rfl (pa_cons (pe_ix ix_tup (pv 0) pe_int (fun _ _ => rfl)) pa_nil))))
    pss_nil)
    (pss_cons (ps_if (pt_cmpR op_eq (pe_ix ix_tup (pv 0) pe_int (fun _ _ => rfl)) pe_str (nomark _))
    (pss_one (ps_ret (pe_c c_element hr (by decide) rfl (pa_cons (pe_gc rfl nb.g_NULL_TAG) (pa_cons (pe_lst pa_nil) pa_nil)))))
    pss_nil)
    (pss_one (ps_ret (pe_c c_element hr (by decide) rfl (pa_cons (pe_gc rfl nb.g_TRUTH) (pa_cons (pe_lst (pa_cons (pe_ifExp (pt_truth (pe_ix ix_tup (pv 0) pe_int (fun _ _ => rfl)) (by intro _; rfl)) (pe_gc rfl nb.g_TRUE_OCTET) (pe_gc rfl nb.g_FALSE_OCTET)) pa_nil)) pa_nil))))))))), ?_⟩)
  obtain ⟨_, rfl, t, tl, tp, h⟩ := h
  cases t with
  | number m e =>
    obtain ⟨a, xs, rfl, ha, hx⟩ := tp_tup tp
    cases hx with
    | cons h1 h2 =>
    cases h1
    cases h2 with
    | cons h1 h2 =>
    cases h1
    cases h2 with
    | cons h1 h2 =>
    cases h1
    cases h2
    walk_at "rd"
    refine r_ixT (SqT.of ha) (atI_nat (j := 0) rfl) ?_
    walk_at "rd"
    refine r_itep rfl ?_
    walk_at "rd"
    refine r_ixT (SqT.of ha) (atI_nat (j := 1) rfl) ?_
    walk_at "rd"
    refine r_ixT (SqT.of ha) (atI_nat (j := 2) rfl) ?_
    walk_at "rd"
    exact ⟨_, _, rfl, m, e, rfl, rfl, tl.1, tl.2, h⟩
  | bytes os =>
    obtain ⟨a, xs, rfl, ha, hx⟩ := tp_tup tp
    cases hx with
    | cons h1 h2 =>
    cases h1
    cases h2 with
    | cons h1 h2 =>
    obtain ⟨q, rfl, hq⟩ := tp_kdB h1
    cases h2
    walk_at "rd"
    refine r_ixT (SqT.of ha) (atI_nat (j := 0) rfl) ?_
    walk_at "rd"
    refine r_iteN (by decide +kernel) ?_
    walk_at "rd"
    refine r_ixT (SqT.of ha) (atI_nat (j := 0) rfl) ?_
    walk_at "rd"
    refine r_itep rfl ?_
    walk_at "rd"
    refine r_ixT (SqT.of ha) (atI_nat (j := 1) rfl) ?_
    walk_at "rd"
    refine ⟨q, _, rfl, .inr (SqT.of hq), fun p2 n2 => ?_⟩
    obtain ⟨H2, e, s2, g2⟩ := new_o (o := .lst (os.map V.int)) n2
    rw [e]
    clear e
    walk_at "rd"
    refine ⟨_, _, rfl, 4, p2, os, rfl, rfl, g2, Nat.le_trans tl (by decide), h.same s2⟩
  | text ps =>
    obtain ⟨a, xs, rfl, ha, hx⟩ := tp_tup tp
    cases hx with
    | cons h1 h2 =>
    cases h1
    cases h2 with
    | cons h1 h2 =>
    obtain ⟨q, rfl, hq⟩ := tp_kdB h1
    cases h2
    walk_at "rd"
    refine r_ixT (SqT.of ha) (atI_nat (j := 0) rfl) ?_
    walk_at "rd"
    refine r_iteN (by decide +kernel) ?_
    walk_at "rd"
    refine r_ixT (SqT.of ha) (atI_nat (j := 0) rfl) ?_
    walk_at "rd"
    refine r_iteN (by decide +kernel) ?_
    walk_at "rd"
    refine r_ixT (SqT.of ha) (atI_nat (j := 0) rfl) ?_
    walk_at "rd"
    refine r_itep rfl ?_
    walk_at "rd"
    refine r_ixT (SqT.of ha) (atI_nat (j := 1) rfl) ?_
    walk_at "rd"
    exact ⟨_, rfl, q, ps, rfl, hq, tl, h⟩
  | null =>
    obtain ⟨a, xs, rfl, ha, hx⟩ := tp_tup tp
    cases hx with
    | cons h1 h2 =>
    cases h1
    cases h2
    walk_at "rd"
    refine r_ixT (SqT.of ha) (atI_nat (j := 0) rfl) ?_
    walk_at "rd"
    refine r_iteN (by decide +kernel) ?_
    walk_at "rd"
    refine r_ixT (SqT.of ha) (atI_nat (j := 0) rfl) ?_
    walk_at "rd"
    refine r_iteN (by decide +kernel) ?_
    walk_at "rd"
    refine r_ixT (SqT.of ha) (atI_nat (j := 0) rfl) ?_
    walk_at "rd"
    refine r_iteN (by decide +kernel) ?_
    walk_at "rd"
    refine r_ixT (SqT.of ha) (atI_nat (j := 0) rfl) ?_
    walk_at "rd"
    refine r_itep rfl ?_
    walk_at "rd"
    refine ⟨Nat.zero_le _, fun p2 n2 => ?_⟩
    obtain ⟨H2, e, s2, g2⟩ := new_o (o := .lst []) n2
    rw [e]
    clear e
    walk_at "rd"
    exact ⟨_, _, rfl, 5, p2, [], rfl, rfl, g2, by decide, h.same s2⟩
  | truth b =>
    obtain ⟨a, xs, rfl, ha, hx⟩ := tp_tup tp
    cases hx with
    | cons h1 h2 =>
    cases h1
    cases h2 with
    | cons h1 h2 =>
    cases h1
    cases h2
    walk_at "rd"
    refine r_ixT (SqT.of ha) (atI_nat (j := 0) rfl) ?_
    walk_at "rd"
    refine r_iteN (by decide +kernel) ?_
    walk_at "rd"
    refine r_ixT (SqT.of ha) (atI_nat (j := 0) rfl) ?_
    walk_at "rd"
    refine r_iteN (by decide +kernel) ?_
    walk_at "rd"
    refine r_ixT (SqT.of ha) (atI_nat (j := 0) rfl) ?_
    walk_at "rd"
    refine r_iteN (by decide +kernel) ?_
    walk_at "rd"
    refine r_ixT (SqT.of ha) (atI_nat (j := 0) rfl) ?_
    walk_at "rd"
    refine r_iteN (by decide +kernel) ?_
    walk_at "rd"
    refine r_ixT (SqT.of ha) (atI_nat (j := 1) rfl) ?_
    refine ⟨b, rfl, ?_⟩
    cases b
    · walk_at "rd"
      refine ⟨by show 1 ≤ sizeLine; decide, fun p2 n2 => ?_⟩
      obtain ⟨H2, e, s2, g2⟩ := new_o (o := .lst ([0].map V.int)) n2
      rw [show (HO.lst [V.int 0]) = .lst ([0].map V.int) from rfl, e]
      clear e
      walk_at "rd"
      exact ⟨_, _, rfl, 1, p2, [0], rfl, rfl, g2, (by show 1 ≤ 16000000; decide), h.same s2⟩
    · walk_at "rd"
      refine ⟨by show 1 ≤ sizeLine; decide, fun p2 n2 => ?_⟩
      obtain ⟨H2, e, s2, g2⟩ := new_o (o := .lst ([255].map V.int)) n2
      rw [show (HO.lst [V.int 255]) = .lst ([255].map V.int) from rfl, e]
      clear e
      walk_at "rd"
      exact ⟨_, _, rfl, 1, p2, [255], rfl, rfl, g2, (by show 1 ≤ 16000000; decide), h.same s2⟩
  | ls xs => exact tl.elim
  | mp xs => exact tl.elim
end

abbrev s__together : Stmt := (top 39)
theorem sc__together : FnScope ["rows", "octets", "row"] ["rows"] (defScope s__together) := ⟨rfl, rfl, rfl, by decide +kernel, rfl, by decide +kernel, by decide +kernel⟩
abbrev s__entry_octets : Stmt := (top 38)
theorem sc__entry_octets : FnScope ["entry"] ["entry"] (defScope s__entry_octets) := ⟨rfl, rfl, rfl, by decide +kernel, rfl, by decide +kernel, by decide +kernel⟩
abbrev s_write_ber : Stmt := (top 37)
theorem sc_write_ber : FnScope ["value", "item", "entry"] ["value"] (defScope s_write_ber) := ⟨rfl, rfl, rfl, by decide +kernel, rfl, by decide +kernel, by decide +kernel⟩
def sp__together (K : Frg) : Sp := sp1 fun a H Q _ => ∃ (p : Addr) (xs : List V) (rows : List (List Int)), a = .ref p ∧ H p = some (.lst xs) ∧ RowsAt H xs rows ∧ rows.flatten.length ≤ 16000000 ∧ Out H rows.flatten Q
def sp__entry_octets (K : Frg) (N : Nat) : Sp := sp1 fun a H Q _ => ∃ (k : List Int) (v : Vb) (m : Nat), Tp H a (.tuple [kd k, v.dat]) ∧ Pts k ∧ v.ok m ∧ m < N ∧ bsz v ≤ 4000 ∧ Out H (elem 48 (elem 12 (utf8 k) ++ ber v)) Q
def sp_write_ber (K : Frg) (N : Nat) : Sp := sp1 fun a H Q _ => ∃ (t : Vb) (n : Nat), t.ok n ∧ n < N ∧ bsz t ≤ 4000 ∧ Tp H a t.dat ∧ Out H (ber t) Q
theorem no_write_ber {K : Frg} {vs : List V} {H : Hp} {Q : VK} {E : XK} (h : sp_write_ber K 0 vs H Q E) : False := by
  obtain ⟨_, rfl, _, _, _, h, _⟩ := h
  exact absurd h (Nat.not_lt_zero _)
theorem r_extB {a b : Addr} {xs ys : List Int} {H : Hp} {Q : VK} (h1 : H a = some (.lst (xs.map V.int))) (h2 : H b = some (.lst (ys.map V.int))) (hl : xs.length + ys.length ≤ 16700000) (h : ∀ H', H' a = some (.lst ((xs ++ ys).map V.int)) → (∀ b, b ≠ a → H' b = H b) → Q .non H') : rExtend (.ref a) [.ref b] H Q :=
  ⟨a, b, _, _, rfl, rfl, h1, h2, Nat.le_trans (by rw [List.length_map, List.length_map]; exact hl) (by decide : 16700000 ≤ sizeLine), h _ (by rw [upd_same, cat_ints]) (fun b n => upd_ne n)⟩
/-- what has grown at D: references to these rows, all else kept -/
def Grown (H : Hp) (D : Addr) (rows : List (List Int)) (H' : Hp) : Prop := ∃ as : List Addr, H' D = some (.lst (as.map V.ref)) ∧ as.length = rows.length ∧ (∀ b ∈ as, b ≠ D) ∧ (∀ (j : Nat) (b : Addr) (k : List Int), as[j]? = some b → rows[j]? = some k → H' b = some (.lst (k.map V.int))) ∧ ∀ b u, b ≠ D → H b = some u → H' b = some u
theorem Grown.nil {H : Hp} {D : Addr} (hD : H D = none) : Grown H D [] (upd H D (.lst [])) := ⟨[], upd_same, rfl, fun b hb => absurd hb (by simp), fun j b k h => by simp at h, fun b u n z => (upd_ne n).trans z⟩
theorem Grown.add {H H2 H3 : Hp} {D : Addr} {rows : List (List Int)} {r : List Int} {p : Addr} (g : Grown H D rows H2) (n : H2 p = none) (hp : H3 p = some (.lst (r.map V.int))) (s : Same H2 H3) : ∃ acc, H3 D = some (.lst acc) ∧ acc.length = rows.length ∧ Grown H D (rows ++ [r]) (upd H3 D (.lst (acc ++ [.ref p]))) := by
  obtain ⟨as, g1, el, ne, at_, kp⟩ := g
  have np : p ≠ D := fun e => by rw [e, g1] at n; cases n
  refine ⟨as.map V.ref, s _ _ g1, by rw [List.length_map, el], as ++ [p], by rw [upd_same, List.map_append]; rfl, by rw [List.length_append, List.length_append, el]; rfl, fun b hb => ?_, fun j b k hj hk => ?_, fun b u m z => (upd_ne m).trans (s _ _ (kp b u m z))⟩
  · rcases List.mem_append.mp hb with q | q
    · exact ne b q
    · rw [List.mem_singleton.mp q]
      exact np
  · by_cases cj : j < as.length
    · rw [List.getElem?_append_left cj] at hj
      rw [List.getElem?_append_left (by omega)] at hk
      exact (upd_ne (ne b (List.mem_of_getElem? hj))).trans (s _ _ (at_ j b k hj hk))
    · rw [List.getElem?_append_right (by omega)] at hj hk
      have hj0 : j - as.length = 0 := by
        have := (List.getElem?_eq_some_iff.mp hj).1
        simp at this
        omega
      rw [← el, hj0] at hk
      rw [hj0] at hj
      cases (show some p = some b from hj)
      cases (show some r = some k from hk)
      exact (upd_ne np).trans hp
theorem Grown.same {H H2 : Hp} {D : Addr} {rows : List (List Int)} (g : Grown H D rows H2) (hD : H D = none) : Same H H2 := fun b u z => by
  obtain ⟨_, _, _, _, _, kp⟩ := g
  exact kp b u (fun e => by rw [e, hD] at z; cases z) z
theorem RowsAt.same {H H' : Hp} {xs : List V} {rows : List (List Int)} (r : RowsAt H xs rows) (s : Same H H') : RowsAt H' xs rows := by
  obtain ⟨as, e, el, at_⟩ := r
  exact ⟨as, e, el, fun i a k h1 h2 => s _ _ (at_ i a k h1 h2)⟩
theorem Grown.rows {H H2 : Hp} {D : Addr} {rows : List (List Int)} (g : Grown H D rows H2) : ∃ xs, H2 D = some (.lst xs) ∧ RowsAt H2 xs rows := by
  obtain ⟨as, g1, el, ne, at_, kp⟩ := g
  exact ⟨_, g1, as, rfl, el, at_⟩
theorem berL_rows (xs : List Vb) : (xs.map ber).flatten = berL xs := (berL_map xs).symm
section
variable {P : Program} {w : World} {K : PySem.W.Frag} {mg : Str → Option Value} {base : Heap} {f : Addr} {fd fd2 : FuncData}
theorem ok__together (F : FunD K "_together" "_together" (defArgs s__together) (defBody s__together) (defScope s__together) [] [] (glAd "_together" K) fd) (m : mg "_together" = some (.ref (glAd "_together" K))) (nb : Nm K mg) : Cal P w K mg base 1 "_together" (sp__together K) [] := by
  refine calD F m sc__together (fun _ _ _ _ _ _ us hl => match us, hl with | [_], _ => rfl) len1 (fun cdv A outer s H vs Q E hr h => ⟨_, (pss_cons (ps_set (i := 1) sc__together.nd rfl (Or.inl rfl) (pe_lst pa_nil))
    (pss_cons (ps_for PassesOwn.never rfl (pi_list (pv 0)) (pg_name (i := 2) sc__together.nd rfl (Or.inl rfl))
    (pss_one (ps_expr (pe_bm PySem.F.plainAttrs_list PySem.F.slot_list_extend PySem.F.type_list_extend mt_extend (pv 1) (pa_cons (pv 2) pa_nil)))))
    (pss_one (ps_ret (pv 1))))), ?_⟩)
  obtain ⟨_, rfl, p, xs, rows, rfl, hp, ⟨as, rfl, el, at_⟩, hl, h⟩ := h
  walk_at "rd"
  refine ⟨Nat.zero_le _, fun q nq => ?_⟩
  obtain ⟨H1, e, s1, g1⟩ := new_o (o := .lst []) nq
  rw [e]
  clear e
  walk_at "rd"
  refine ⟨p, rfl, ⟨_, SqL.of (s1 _ _ hp)⟩, r_eachL (xs := as.map V.ref) (fun i σ H' => Same H H' ∧ ∃ (y : Option V), H' q = some (.lst ((rows.take i).flatten.map V.int)) ∧ σ = [some (.ref p), some (.ref q), y]) ⟨s1, none, g1, rfl⟩ (fun i σ H' z => SqL.of (z.1 _ _ hp)) ?_ ?_⟩
  · rintro i x σ H2 hi ⟨s2, y, g2, rfl⟩
    rw [List.getElem?_map] at hi
    obtain ⟨b, hb, rfl⟩ := Option.map_eq_some_iff.mp hi
    have hil : i < rows.length := by
      have := (List.getElem?_eq_some_iff.mp hb).1
      omega
    have hrow := List.getElem?_eq_getElem hil
    have gb := s2 _ _ (at_ i b _ hb hrow)
    have efl : (rows.take (i + 1)).flatten = (rows.take i).flatten ++ rows[i] := by
      rw [List.take_succ, hrow, List.flatten_append]
      simp
    have hb5 := flat_take rows (i + 1)
    rw [efl, List.length_append] at hb5
    walk_at "rd"
    refine ⟨tyL g2, ?_⟩
    walk_at "rd"
    refine r_extB g2 gb (by omega) fun H3 g3 k3 => ?_
    exact ⟨same_but s2 nq k3, _, by rw [efl]; exact g3, rfl⟩
  · rintro σ H2 ⟨s2, y, g2, rfl⟩
    rw [List.length_map, el, List.take_length] at g2
    walk_at "rd"
    exact h q H2 nq g2 s2
theorem ok__entry_octets (n : Nat) (F : FunD K "_entry_octets" "_entry_octets" (defArgs s__entry_octets) (defBody s__entry_octets) (defScope s__entry_octets) [] [] (glAd "_entry_octets" K) fd) (m : mg "_entry_octets" = some (.ref (glAd "_entry_octets" K))) (nb : Nm K mg)
    (c_element : Cal P w K mg base 4 "element" (sp_element K) []) (c_key_octets : Cal P w K mg base 5 "key_octets" (sp_key_octets K) []) (c_write_ber : Cal P w K mg base (10 + 2 * n) "write_ber" (sp_write_ber K n) []) : Cal P w K mg base (10 + 2 * n + 1) "_entry_octets" (sp__entry_octets K n) [] := by
  refine calD F m sc__entry_octets (fun _ _ _ _ _ _ us hl => match us, hl with | [_], _ => rfl) len1 (fun cdv A outer s H vs Q E hr h => ⟨_, (pss_one (ps_ret (pe_c c_element hr (by omega) rfl (pa_cons (pe_gc rfl nb.g_LIST) (pa_cons (pe_op op_cat (pe_c c_key_octets hr (by omega) rfl (pa_cons (pe_ix ix_tup (pv 0) pe_int (fun _ _ => rfl)) pa_nil)) (pe_c c_write_ber hr (by omega) rfl (pa_cons (pe_ix ix_tup (pv 0) pe_int (fun _ _ => rfl)) pa_nil))) pa_nil))))), ?_⟩)
  obtain ⟨_, rfl, k, v, mm, tp, hk, ok, hm, sz, h⟩ := h
  have hkl := hk.1
  have hkl2 := utf8_len k
  have hkl3 := elem_len 12 (utf8 k)
  have hvl := ber_len mm v ok
  obtain ⟨a, xs, rfl, ha, hx⟩ := tp_tup tp
  cases hx with
  | cons h1 h2 =>
  obtain ⟨kq, rfl, hkq⟩ := tp_kdB h1
  cases h2 with
  | cons h2 h3 =>
  cases h3
  walk_at "rd"
  refine r_ixT (SqT.of ha) (atI_nat (j := 0) rfl) ?_
  walk_at "rd"
  refine ⟨_, rfl, kq, k, rfl, hkq, hk, fun p2 H2 n2 g2 s2 => ?_⟩
  walk_at "rd"
  refine r_ixT (SqT.of (s2 _ _ ha)) (atI_nat (j := 1) rfl) ?_
  walk_at "rd"
  refine ⟨_, rfl, v, mm, ok, hm, sz, Tp.tk (Same.tk s2) _ _ h2, fun p3 H3 n3 g3 s3 => ?_⟩
  walk_at "rd"
  refine r_catB (s3 _ _ g2) g3 (by omega) fun p4 H4 n4 g4 s4 => ?_
  walk_at "rd"
  exact ⟨_, _, rfl, 48, p4, _, rfl, rfl, g4, (by rw [List.length_append]; omega), h.same ((s2.trans s3).trans s4)⟩
theorem ok_write_ber (n : Nat) (F : FunD K "write_ber" "write_ber" (defArgs s_write_ber) (defBody s_write_ber) (defScope s_write_ber) [] [] (glAd "write_ber" K) fd) (m : mg "write_ber" = some (.ref (glAd "write_ber" K))) (nb : Nm K mg)
    (c_element : Cal P w K mg base 4 "element" (sp_element K) []) (c_leaf_octets : Cal P w K mg base 6 "leaf_octets" (sp_leaf_octets K) []) (c__together : Cal P w K mg base 1 "_together" (sp__together K) []) (c__entry_octets : Cal P w K mg base (10 + 2 * n + 1) "_entry_octets" (sp__entry_octets K n) []) (c_write_ber : Cal P w K mg base (10 + 2 * n) "write_ber" (sp_write_ber K n) []) : Cal P w K mg base (10 + 2 * (n + 1)) "write_ber" (sp_write_ber K (n + 1)) [] := by
  refine calD (k := 10 + 2 * n + 1) F m sc_write_ber (fun _ _ _ _ _ _ us hl => match us, hl with | [_], _ => rfl) len1 (fun cdv A outer s H vs Q E hr h => ⟨_, (pss_cons (ps_if (pt_cmpR op_eq (pe_ix ix_tup (pv 0) pe_int (fun _ _ => rfl)) pe_str (nomark _))
    (pss_one (ps_ret (pe_c c_element hr (by omega) rfl (pa_cons (pe_gc rfl nb.g_LIST) (pa_cons (pe_c c__together hr (by omega) rfl (pa_cons (pe_lc (own := [("item", 1)]) (g := gName 1) (tt := tYes) rfl sc_write_ber.nd (pi_tup (pe_ix ix_tup (pv 0) pe_int (fun _ _ => rfl))) (blkOk_by (N := ["value", "item", "entry"]) (sc := defScope s_write_ber) (by decide +kernel)) (fun _ _ _ _ _ => pg_name (i := 1) sc_write_ber.nd rfl (Or.inl rfl)) (fun _ _ _ _ _ => pts_nil) (fun _ _ _ _ _ => (pe_c c_write_ber hr (by omega) rfl (pa_cons (pv 1) pa_nil)))) pa_nil)) pa_nil)))))
    pss_nil)
    (pss_cons (ps_if (pt_cmpR op_eq (pe_ix ix_tup (pv 0) pe_int (fun _ _ => rfl)) pe_str (nomark _))
    (pss_one (ps_ret (pe_c c_element hr (by omega) rfl (pa_cons (pe_gc rfl nb.g_MAP) (pa_cons (pe_c c__together hr (by omega) rfl (pa_cons (pe_callB (cr_sortedLL hr.units) (by rfl) nb.sorted (by decide +kernel) (pa_cons (pe_lc (own := [("entry", 2)]) (g := gName 2) (tt := tYes) rfl sc_write_ber.nd (pi_tup (pe_ix ix_tup (pv 0) pe_int (fun _ _ => rfl))) (blkOk_by (N := ["value", "item", "entry"]) (sc := defScope s_write_ber) (by decide +kernel)) (fun _ _ _ _ _ => pg_name (i := 2) sc_write_ber.nd rfl (Or.inl rfl)) (fun _ _ _ _ _ => pts_nil) (fun _ _ _ _ _ => (pe_c c__entry_octets hr (by omega) rfl (pa_cons (pv 2) pa_nil)))) pa_nil)) pa_nil)) pa_nil)))))
    pss_nil)
    (pss_one (ps_ret (pe_c c_leaf_octets hr (by omega) rfl (pa_cons (pv 0) pa_nil)))))), ?_⟩)
  obtain ⟨_, rfl, t, nn, ok, hn, sz, tp, h⟩ := h
  walk_at "rd"
  rcases vb_kinds ok with hl | ⟨m, xs, rfl, rfl, hx, okx⟩ | ⟨m, es, rfl, rfl, hx, hk, oke⟩
  · obtain ⟨a, k, r, rfl, ha, c1, c2⟩ := leaf_head hl tp
    refine r_ixT (SqT.of ha) (atI_nat (j := 0) rfl) ?_
    walk_at "rd"
    refine r_iteN c1 ?_
    walk_at "rd"
    refine r_ixT (SqT.of ha) (atI_nat (j := 0) rfl) ?_
    walk_at "rd"
    refine r_iteN c2 ?_
    walk_at "rd"
    exact ⟨_, rfl, t, hl, tp, h⟩
  · obtain ⟨a, q, vs, rfl, ha, hq, hv⟩ := two_head tp
    refine r_ixT (SqT.of ha) (atI_nat (j := 0) rfl) ?_
    walk_at "rd"
    refine r_itep rfl ?_
    walk_at "rd"
    refine r_ixT (SqT.of ha) (atI_nat (j := 1) rfl) ?_
    walk_at "rd"
    have okn : m < n := by omega
    have sz2 : 1 + bszL xs ≤ 4000 := sz
    have hL := berL_len m xs okx
    refine ⟨q, rfl, ⟨_, SqT.of hq⟩, fun D nD => lc_tup (xs := vs) (fun i H' => i ≤ 49 ∧ Grown H D ((xs.take i).map ber) H') ⟨Nat.zero_le _, Grown.nil nD⟩ (fun i H' _ g => SqT.of (g.2.same nD _ _ hq)) ?_ ?_⟩
    · rintro i x H2 hi ⟨hi2, g⟩
      obtain ⟨d, hd, tx⟩ := tpAll_get hv hi
      rw [bdL_map, List.getElem?_map] at hd
      obtain ⟨vb, hvb, rfl⟩ := Option.map_eq_some_iff.mp hd
      have hmem := List.mem_of_getElem? hvb
      have hb1 := bszL_mem hmem
      have hil := (List.getElem?_eq_some_iff.mp hvb).1
      walk_at "rd"
      refine ⟨rfl, ?_⟩
      walk_at "rd"
      refine ⟨_, rfl, vb, m, bokL_mem okx vb hmem, okn, by omega, Tp.tk (Same.tk (g.same nD)) _ _ tx, fun p3 H3 n3 g3 s3 => ?_⟩
      obtain ⟨acc, a1, a2, a3⟩ := g.add n3 g3 s3
      have e : (xs.take (i + 1)).map ber = (xs.take i).map ber ++ [ber vb] := by
        rw [List.take_succ, hvb, List.map_append]
        rfl
      exact ⟨acc, a1, small1000 (by rw [a2, List.length_map, List.length_take]; omega), by omega, by rw [e]; exact a3⟩
    · rintro H2 ⟨_, g⟩
      have el : xs.take vs.length = xs := by
        rw [tpAll_len hv, bdL_len, List.take_length]
      rw [el] at g
      obtain ⟨ys, g1, r1⟩ := g.rows
      walk_at "rd"
      refine ⟨_, rfl, D, ys, xs.map ber, rfl, g1, r1, by rw [berL_rows]; omega, fun p3 H3 n3 g3 s3 => ?_⟩
      rw [berL_rows] at g3
      walk_at "rd"
      exact ⟨_, _, rfl, 48, p3, _, rfl, rfl, g3, by omega, h.same ((g.same nD).trans s3)⟩
  · obtain ⟨a, q, vs, rfl, ha, hq, hv⟩ := two_head tp
    refine r_ixT (SqT.of ha) (atI_nat (j := 0) rfl) ?_
    walk_at "rd"
    refine r_iteN (by decide +kernel) ?_
    walk_at "rd"
    refine r_ixT (SqT.of ha) (atI_nat (j := 0) rfl) ?_
    walk_at "rd"
    refine r_itep rfl ?_
    walk_at "rd"
    refine r_ixT (SqT.of ha) (atI_nat (j := 1) rfl) ?_
    walk_at "rd"
    have okn : m < n := by omega
    have sz2 : 1 + bszM es ≤ 4000 := sz
    have hM := berM_len m es hk oke
    have hM2 := rows_len (List.mergeSort_perm (berM es) rowLe)
    refine ⟨q, rfl, ⟨_, SqT.of hq⟩, fun D nD => lc_tup (xs := vs) (fun i H' => i ≤ 49 ∧ Grown H D (berM (es.take i)) H') ⟨Nat.zero_le _, Grown.nil nD⟩ (fun i H' _ g => SqT.of (g.2.same nD _ _ hq)) ?_ ?_⟩
    · rintro i x H2 hi ⟨hi2, g⟩
      obtain ⟨d, hd, tx⟩ := tpAll_get hv hi
      rw [bdM_map, List.getElem?_map] at hd
      obtain ⟨⟨k, vb⟩, hvb, rfl⟩ := Option.map_eq_some_iff.mp hd
      have hmem := List.mem_of_getElem? hvb
      have hb1 : 1 + bsz vb ≤ bszM es := bszM_mem hmem
      have hil := (List.getElem?_eq_some_iff.mp hvb).1
      walk_at "rd"
      refine ⟨rfl, ?_⟩
      walk_at "rd"
      refine ⟨_, rfl, k, vb, m, Tp.tk (Same.tk (g.same nD)) _ _ tx, hk _ hmem, bokM_mem oke _ hmem, okn, by omega, fun p3 H3 n3 g3 s3 => ?_⟩
      obtain ⟨acc, a1, a2, a3⟩ := g.add n3 g3 s3
      exact ⟨acc, a1, small1000 (by rw [a2, berM_map, List.length_map, List.length_take]; omega), by omega, by rw [berM_snoc hvb]; exact a3⟩
    · rintro H2 ⟨_, g⟩
      have el : es.take vs.length = es := by
        rw [tpAll_len hv, bdM_len, List.take_length]
      rw [el] at g
      obtain ⟨ys, g1, r1⟩ := g.rows
      walk_at "rd"
      refine ⟨D, ys, berM es, rfl, SqL.of g1, r1, fun p8 zs n8 hzs => ?_⟩
      obtain ⟨H3, e3, s3, g3⟩ := new_o (o := .lst zs) n8
      rw [e3]
      clear e3
      walk_at "rd"
      refine ⟨_, rfl, p8, zs, (berM es).mergeSort rowLe, rfl, g3, hzs.same s3, by omega, fun p4 H4 n4 g4 s4 => ?_⟩
      walk_at "rd"
      exact ⟨_, _, rfl, 49, p4, _, rfl, rfl, g4, by omega, h.same (((g.same nD).trans s3).trans s4)⟩
theorem rec_write_ber (Fe : FunD K "_entry_octets" "_entry_octets" (defArgs s__entry_octets) (defBody s__entry_octets) (defScope s__entry_octets) [] [] (glAd "_entry_octets" K) fd2) (me : mg "_entry_octets" = some (.ref (glAd "_entry_octets" K)))
    (F : FunD K "write_ber" "write_ber" (defArgs s_write_ber) (defBody s_write_ber) (defScope s_write_ber) [] [] (glAd "write_ber" K) fd) (m : mg "write_ber" = some (.ref (glAd "write_ber" K))) (nb : Nm K mg)
    (c_element : Cal P w K mg base 4 "element" (sp_element K) []) (c_leaf_octets : Cal P w K mg base 6 "leaf_octets" (sp_leaf_octets K) []) (c_key_octets : Cal P w K mg base 5 "key_octets" (sp_key_octets K) []) (c__together : Cal P w K mg base 1 "_together" (sp__together K) []) : ∀ n, Cal P w K mg base (10 + 2 * n) "write_ber" (sp_write_ber K n) []
  | 0 => calD (k := 9) F m sc_write_ber (fun _ _ _ _ _ _ us hl => match us, hl with | [_], _ => rfl) (fun _ _ _ _ h => (no_write_ber h).elim) (fun _ _ _ _ _ _ _ _ _ h => (no_write_ber h).elim)
  | n + 1 => ok_write_ber n F m nb c_element c_leaf_octets c__together (ok__entry_octets n Fe me nb c_element c_key_octets (rec_write_ber Fe me F m nb c_element c_leaf_octets c_key_octets c__together n)) (rec_write_ber Fe me F m nb c_element c_leaf_octets c_key_octets c__together n)
end

/-! ### (z,) * k, k large -/
section
open PyProof.Rows PySem.Calls
/-- one number k times in a tuple -/
def rRep1T : R2 := fun x y H Q => ∃ (l : Addr) (k z : Int), x = .ref l ∧ y = .int k ∧ H l = some (.tup [.int z]) ∧ 2 ≤ k ∧ k ≤ 100000 ∧ ∀ p, H p = none → Q (.ref p) (upd H p (.tup ((List.replicate k.toNat z).map V.int)))
theorem op_rep1T {X : Cx} : OpR X (binaryOp .Mult) rRep1T := by
  intro pins s σ H x y v u Q I rx ry h
  obtain ⟨l, k, z, rfl, rfl, hl, h1, h2, q⟩ := h
  obtain rfl : v = Value.ref l := rx
  obtain ⟨t, rfl⟩ := ry
  obtain ⟨its, r, ⟨⟨cls, dd, data, sl⟩, ho, hc, n, hd⟩, hs⟩ := I.tuple (SqT.of (K := X.K) hl)
  simp only at hc hd
  subst hc hd
  have rk := r.rep k.toNat
  rw [rep1] at rk
  obtain ⟨i, rfl⟩ : ∃ i, its = [i] := by
    cases r with
    | cons a b => cases b; exact ⟨_, rfl⟩
  have kz : (((#[i] : Array Value).size : Nat) : Int) * k = k := by
    show (1 : Int) * k = k
    omega
  have len : (List.replicate k.toNat [i]).flatten.length ≤ sizeLine := by
    rw [lm_len_rep_flat, sizeLine_eq]
    show k.toNat * 1 ≤ _
    omega
  have far : Builtin.Tuple.tupleTooMany k = false := by
    unfold Builtin.Tuple.tupleTooMany
    rw [sizeLine_eq]
    exact decide_eq_false (by omega)
  have within : (decide (k < -(2 ^ 63)) || decide (k ≥ 2 ^ 63)) = false := by
    rw [decide_eq_false (by omega), decide_eq_false (by omega)]
    rfl
  have notOne : ((#[i] : Array Value).isEmpty || k == 1) = false := by
    rw [show (#[i] : Array Value).isEmpty = false from rfl, Bool.false_or]
    exact beq_eq_false_iff_ne.mpr (by omega)
  have some_ : (decide (k ≤ 0) || (#[i] : Array Value).isEmpty) = false := by
    rw [decide_eq_false (by omega)]
    rfl
  have body := tuple_mulW l [i].toArray n dd sl k t within notOne some_ (by rw [kz]; omega) (by rw [kz]; exact far) (by rw [size_rep, List.size_toArray]; exact len)
  refine wpAny_binaryOp_repeat_ref (T := "tuple") (U := "int") (by decide) ⟨_, ho, rfl⟩ (fun s' => typeIs_int s' k t) noFill_tuple_mul F.fills_int_mul F.slot_int_rmul repeat_tuple F.slot_int_index.lookup ?_
  refine call_meets F.slot_int_rmul (typeIs_int s k t) F.entry_int_rmul (F.args_int_rmul_2 _ _) (int_rmul_tuple k t l [i].toArray n dd sl) ⟨ho, rfl, ⟨_, ho, rfl⟩, ?_⟩
  refine call_meets F.slot_tuple_mul ⟨_, ho, rfl⟩ F.entry_tuple_mul (F.args_tuple_mul_2 _ _) body ⟨ho, ?_⟩
  rw [size_rep]
  have fresh : H s.heap.objs.size = none := I.hok.fresh (Nat.le_refl _)
  exact ⟨.ref s.heap.objs.size, _, I.laid (t' := s.toks) (o := .tup ((List.replicate k.toNat z).map V.int)) (fun b ob e => Heap.get?_push_of_some _ e) (Nat.le_refl _) ⟨by rw [List.length_map, List.length_replicate, sizeLine_eq]; omega, _, rk, IsTup.new _ _⟩, rfl, q _ fresh⟩
end

abbrev s_law : Stmt := (top 65)
theorem sc_law : FnScope ["script", "state", "value", "other", "due", "told", "many", "large"] ["script"] (defScope s_law) := ⟨rfl, rfl, rfl, by decide +kernel, rfl, by decide +kernel, by decide +kernel⟩
theorem ixN_zero {n : Nat} (h : 0 < n) : ixN n 0 = some 0 := by
  unfold ixN
  simp [h]
section
variable {P : Program} {w : World} {K : PySem.W.Frag} {mg : Str → Option Value} {base : Heap} {f : Addr} {fd : FuncData}
theorem ok_law (F : FunD K "law" "law" (defArgs s_law) (defBody s_law) (defScope s_law) [] [] (glAd "law" K) fd) (nb : Nm K mg) (c_write_ber : Cal P w K mg base 62 "write_ber" (sp_write_ber K 26) []) (c__law_state : Cal P w K mg base 2 "_law_state" (sp__law_state K) []) (c__law_next : Cal P w K mg base 1 "_law_next" (sp__law_next K) []) (c__law_leaf : Cal P w K mg base 4 "_law_leaf" (sp__law_leaf K) []) (c__law_value : Cal P w K mg base 10 "_law_value" (sp__law_value K 5) []) (c__law_towered : Cal P w K mg base 2 "_law_towered" (sp__law_towered K) []) (c__law_same : Cal P w K mg base 4 "_law_same" (sp__law_same K 3) []) (c__law_element : Cal P w K mg base 2 "_law_element" (sp__law_element K) []) (c__law_leaf_written : Cal P w K mg base 3 "_law_leaf_written" (sp__law_leaf_written K) []) (c__law_written : Cal P w K mg base 30 "_law_written" (sp__law_written K 26) []) : FnOk P w K mg base CX0 63 (glAd "law" K) fd ["script"] (sp_law K) := by
  refine fnD F sc_law len1 (fun cdv A outer s H vs Q E hr h => ⟨_, (pss_cons (ps_set (i := 1) sc_law.nd rfl (Or.inl rfl) (pe_c c__law_state hr (by decide) rfl (pa_cons (pv 0) pa_nil)))
    (pss_cons (ps_set (i := 2) sc_law.nd rfl (Or.inl rfl) (pe_c c__law_towered hr (by decide) rfl (pa_cons (pv 1) (pa_cons (pe_c c__law_value hr (by decide) rfl (pa_cons (pv 1) (pa_cons pe_int pa_nil))) pa_nil))))
    (pss_cons (ps_set (i := 3) sc_law.nd rfl (Or.inl rfl) (pe_c c__law_leaf hr (by decide) rfl (pa_cons (pv 1) pa_nil)))
    (pss_cons (ps_set (i := 4) sc_law.nd rfl (Or.inl rfl) (pe_c c__law_written hr (by decide) rfl (pa_cons (pv 2) pa_nil)))
    (pss_cons (ps_set (i := 5) sc_law.nd rfl (Or.inl rfl) (pe_c c_write_ber hr (by decide) rfl (pa_cons (pv 2) pa_nil)))
    (pss_cons (ps_if (pt_not (pt_val (pe_c c__law_same hr (by decide) rfl (pa_cons (pv 5) (pa_cons (pv 4) pa_nil)))))
    (pss_one (ps_ret pe_bl))
    pss_nil)
    (pss_cons (ps_expr (pe_bm PySem.F.plainAttrs_list PySem.F.slot_list_append PySem.F.type_list_append mt_append (pv 5) (pa_cons pe_int pa_nil)))
    (pss_cons (ps_asg pe_int (pg_sub (pv 5) pe_int set_list))
    (pss_cons (ps_if (pt_not (pt_val (pe_c c__law_same hr (by decide) rfl (pa_cons (pe_c c_write_ber hr (by decide) rfl (pa_cons (pv 3) pa_nil)) (pa_cons (pe_c c__law_leaf_written hr (by decide) rfl (pa_cons (pv 3) pa_nil)) pa_nil)))))
    (pss_one (ps_ret pe_bl))
    pss_nil)
    (pss_cut (ps_if (pt_cmpR op_eq (pe_c c__law_next hr (by decide) rfl (pa_cons (pv 1) (pa_cons pe_int pa_nil))) pe_int (nomark _))
    (pss_cons (ps_set (i := 6) sc_law.nd rfl (Or.inl rfl) (pe_op op_add pe_int (pe_c c__law_next hr (by decide) rfl (pa_cons (pv 1) (pa_cons pe_int pa_nil)))))
    (pss_cons (ps_set (i := 7) sc_law.nd rfl (Or.inl rfl) (pe_tup (pa_cons pe_str (pa_cons (pe_tup (pa_cons (pe_tup (pa_cons pe_str (pa_cons (pe_op op_rep1T (pe_tup (pa_cons pe_int pa_nil)) (pv 6)) pa_nil))) pa_nil)) pa_nil))))
    (pss_one (ps_if (pt_cmpR (op_neD hr.units) (pe_c c_write_ber hr (by decide) rfl (pa_cons (pv 7) pa_nil)) (pe_c c__law_element hr (by decide) rfl (pa_cons pe_int (pa_cons (pe_c c__law_element hr (by decide) rfl (pa_cons pe_int (pa_cons (pe_op op_rep (pe_lst (pa_cons pe_int pa_nil)) (pv 6)) pa_nil))) pa_nil))) (nomark _))
    (pss_one (ps_ret pe_bl))
    pss_nil))))
    pss_nil)
    (pss_one (ps_ret (pe_c c__law_same hr (by decide) rfl (pa_cons (pe_c c_write_ber hr (by decide) rfl (pa_cons (pv 2) pa_nil)) (pa_cons (pv 4) pa_nil))))))))))))))), ?_⟩)
  obtain ⟨_, rfl, sl, ns, rfl, hs, h⟩ := h
  walk_at "rd"
  refine ⟨_, rfl, sl, ns, rfl, hs, fun S l H1 _ _ L1 hl0 hl1 s1 _ => ?_⟩
  walk_at "rd"
  refine ⟨_, _, rfl, S, l, 4, rfl, rfl, by decide, L1, fun v t l' H2 ok bd tp L2 k2 => ?_⟩
  have szt : bsz t ≤ 3700 := by
    unfold Bud at bd
    omega
  walk_at "rd"
  refine ⟨_, _, rfl, S, l', t, rfl, L2, tp, ok, fun v t n H3 hn ok szt2 tp L3 k3 => ?_⟩
  have szt : bsz t ≤ 4000 := by omega
  walk_at "rd"
  refine ⟨_, rfl, S, l', rfl, L3, fun v4 t4 H4 lf4 sz4 tp4 L4 k4 => ?_⟩
  have tp := Tp.tk (keep_tk L3.ls k4) _ _ tp
  have hlen := ber_len n t ok
  walk_at "rd"
  refine ⟨_, rfl, t, n, ok, by omega, szt, tp, fun p5 H5 n5 g5 s5 => ?_⟩
  walk_at "rd"
  refine ⟨_, rfl, t, n, ok, by omega, szt, Tp.tk (Same.tk s5) _ _ tp, fun p6 H6 n6 g6 s6 => ?_⟩
  walk_at "rd"
  have g50 := g5
  have ne5 := L4.ne_free n5
  have g5' := s6 _ _ g5
  refine ⟨_, _, rfl, .inr ⟨p6, p5, ber t, by decide, by omega, rfl, rfl, g6, g5'⟩, fun H7 s7 => ⟨true, rfl, ?_⟩⟩
  walk_at "rd"
  have g5 := s7 _ _ g5'
  have g6 := s7 _ _ g6
  have n56 : p5 ≠ p6 := fun e => by
    rw [← e, g50] at n6
    cases n6
  refine ⟨tyL g6, ?_⟩
  walk_at "rd"
  have hbl : (ber t).length ≤ 12800000 := by omega
  refine r_app g6 (Nat.lt_of_le_of_lt (m := 12800000) (by rw [List.length_map]; exact hbl) (by decide)) ?_
  walk_at "rd"
  refine r_setL upd_same (ixN_zero (by rw [List.length_append]; show 0 < _ + 1; omega)) ?_
  rw [upd_upd]
  generalize hX : HO.lst ((List.map V.int (ber t) ++ [V.int 7]).set 0 (V.int 0)) = oX
  have L5 := L4.same s5
  have L7 := (L5.same s6).same s7
  have n7 : H5 p6 = none := n6
  have L8 : LB K S l' (upd H7 p6 oX) := L5.away n7 L7 oX
  have g58 : upd H7 p6 oX p5 = some (.lst ((ber t).map V.int)) := (upd_ne n56).trans g5
  have tk8 : Tk H4 (upd H7 p6 oX) := (Same.tk (s5.trans (s6.trans s7))).trans (tk_put g6)
  have tp8 := Tp.tk tk8 _ _ tp
  have tp48 := Tp.tk tk8 _ _ tp4
  clear L7 L5
  generalize upd H7 p6 oX = H8 at L8 g58 tp8 tp48 ⊢
  walk_at "rd"
  refine ⟨_, rfl, t4, 0, ok_leaf lf4 0, by decide, by omega, tp48, fun p9 H9 n9 g9 s9 => ?_⟩
  walk_at "rd"
  refine ⟨_, rfl, t4, lf4, Tp.tk (Same.tk s9) _ _ tp48, fun p10 H10 n10 g10 s10 => ?_⟩
  walk_at "rd"
  have hl4 := ber_len 0 t4 (ok_leaf lf4 0)
  refine ⟨_, _, rfl, .inr ⟨p9, p10, ber t4, by decide, by omega, rfl, rfl, s10 _ _ g9, g10⟩, fun H11 s11 => ⟨true, rfl, ?_⟩⟩
  walk_at "rd"
  have s811 := (s9.trans s10).trans s11
  have L11 := L8.same s811
  have g11 := s811 _ _ g58
  have tp11 := Tp.tk (Same.tk s811) _ _ tp8
  clear L8 tp8 tp48
  refine r_cut (fun σ H' => H' p5 = some (.lst ((ber t).map V.int)) ∧ Tp H' v t.dat ∧ ∃ y6 y7 : Option V, σ = [some (.ref sl), some (.ref S.a), some v, some v4, some (.ref p5), some (.ref p6), y6, y7]) ?_ ?_
  · walk_at "rd"
    refine b_next L11 (by decide) fun r12 H12 a12 b12 L12 k12 => ?_
    have g12 := k12 _ _ ne5 g11
    have tp12 := Tp.tk (keep_tk L11.ls k12) _ _ tp11
    walk_at "rd"
    refine r_ite (fun c => ?_) (fun c => ?_)
    · walk_at "rd"
      refine b_next L12 (by decide) fun r13 H13 a13 b13 L13 k13 => ?_
      have tp13 := Tp.tk (keep_tk L12.ls k13) _ _ tp12
      have g13 := k13 _ _ ne5 g12
      walk_at "rd"
      refine ⟨by show 1 ≤ sizeLine; decide, fun q1 m1 => ?_⟩
      obtain ⟨H14, e, L14, s14, g14⟩ := new_b (o := .tup [.int 200]) L13 m1
      rw [e]
      clear e
      walk_at "rd"
      refine ⟨q1, 65520 + r13, 200, rfl, rfl, g14, by omega, by omega, fun q2 m2 => ?_⟩
      have hos : (List.replicate (65520 + r13).toNat (200 : Int)).length ≤ 70000 := by
        rw [List.length_replicate]
        omega
      generalize hose : List.replicate (65520 + r13).toNat (200 : Int) = os at hos ⊢
      obtain ⟨H15, e, L15, s15, g15⟩ := new_b (o := .tup (os.map V.int)) L14 m2
      rw [e]
      clear e
      walk_at "rd"
      refine ⟨by show 2 ≤ sizeLine; decide, fun q3 m3 => ?_⟩
      obtain ⟨H16, e, L16, s16, g16⟩ := new_b (o := .tup [.str "bytes", .ref q2]) L15 m3
      rw [e]
      clear e
      walk_at "rd"
      refine ⟨by show 1 ≤ sizeLine; decide, fun q4 m4 => ?_⟩
      obtain ⟨H17, e, L17, s17, g17⟩ := new_b (o := .tup [.ref q3]) L16 m4
      rw [e]
      clear e
      walk_at "rd"
      refine ⟨by show 2 ≤ sizeLine; decide, fun q5 m5 => ?_⟩
      obtain ⟨H18, e, L18, s18, g18⟩ := new_b (o := .tup [.str "list", .ref q4]) L17 m5
      rw [e]
      clear e
      walk_at "rd"
      have okL : (Vb.ls [.bytes os]).ok 1 := ⟨by show 1 ≤ 49; decide, hos, trivial⟩
      have szL : bsz (.ls [.bytes os]) ≤ 4000 := by
        show 1 + (1 + os.length / 3000 + 0) ≤ 4000
        omega
      have tpL : Tp H18 (.ref q5) (Vb.ls [.bytes os]).dat := .tup g18 (.cons (.str _) (.cons (.tup (s18 _ _ g17) (.cons (.tup ((s17.trans s18) _ _ g16) (.cons (.str _) (.cons (tp_kd ((s16.trans (s17.trans s18)) _ _ g15)) .nil))) .nil)) .nil))
      refine ⟨_, rfl, .ls [.bytes os], 1, okL, by decide, szL, tpL, fun q6 H19 m6 g19 s19 => ?_⟩
      walk_at "rd"
      refine ⟨by show 1 ≤ sizeLine; decide, fun q7 m7 => ?_⟩
      obtain ⟨H20, e, s20, g20⟩ := new_o (o := .lst [.int 200]) m7
      rw [e]
      clear e
      walk_at "rd"
      refine ⟨q7, 65520 + r13, [.int 200], rfl, rfl, g20, by omega, by omega, ?_, fun q8 m8 => ?_⟩
      · rw [sizeLine_eq]
        show 1 * _ ≤ _
        omega
      rw [rep1, hose]
      obtain ⟨H21, e, s21, g21⟩ := new_o (o := .lst (os.map V.int)) m8
      rw [e]
      clear e
      walk_at "rd"
      refine ⟨_, _, rfl, 4, q8, os, rfl, rfl, g21, by omega, fun q9 H22 m9 g22 s22 => ?_⟩
      walk_at "rd"
      have hle := elem_len 4 os
      refine ⟨_, _, rfl, 48, q9, _, rfl, rfl, g22, by omega, fun q10 H23 m10 g23 s23 => ?_⟩
      walk_at "rd"
      have s19_23 := (s20.trans s21).trans (s22.trans s23)
      have eb : ber (.ls [.bytes os]) = elem 48 (elem 4 os) := by
        show elem 48 (elem 4 os ++ []) = _
        rw [List.append_nil]
      rw [eb] at g19
      refine r_neIL (SqL.of (s19_23 _ _ g19)) (SqL.of g23) ?_
      refine r_bl ?_
      refine r_no rfl ?_
      walk_at "rd"
      have sAll := (s14.trans (s15.trans (s16.trans (s17.trans s18)))).trans (s19.trans s19_23)
      exact ⟨sAll _ _ g13, Tp.tk (Same.tk sAll) _ _ tp13, _, _, rfl⟩
    · walk_at "rd"
      exact ⟨g12, tp12, _, _, rfl⟩
  · rintro σ H12 ⟨g12, tp12, y6, y7, rfl⟩
    walk_at "rd"
    refine ⟨_, rfl, t, n, ok, by omega, szt, tp12, fun p13 H13 n13 g13 s13 => ?_⟩
    walk_at "rd"
    exact ⟨_, _, rfl, .inr ⟨p13, p5, ber t, by decide, by omega, rfl, rfl, g13, s13 _ _ g12⟩, fun H14 s14 => h H14⟩
end

def d_wide : DefM := { ad := glAd "wide", nm := "wide", ql := "wide", pa := defArgs s_wide, bo := defBody s_wide, sc := defScope s_wide }
def d_shortest : DefM := { ad := glAd "shortest", nm := "shortest", ql := "shortest", pa := defArgs s_shortest, bo := defBody s_shortest, sc := defScope s_shortest }
def d__length_octets : DefM := { ad := glAd "_length_octets", nm := "_length_octets", ql := "_length_octets", pa := defArgs s__length_octets, bo := defBody s__length_octets, sc := defScope s__length_octets }
def d_element : DefM := { ad := glAd "element", nm := "element", ql := "element", pa := defArgs s_element, bo := defBody s_element, sc := defScope s_element }
def d__encode_long : DefM := { ad := glAd "_encode_long", nm := "_encode_long", ql := "_encode_long", pa := defArgs s__encode_long, bo := defBody s__encode_long, sc := defScope s__encode_long }
def d_encode : DefM := { ad := glAd "encode", nm := "encode", ql := "encode", pa := defArgs s_encode, bo := defBody s_encode, sc := defScope s_encode }
def d_key_octets : DefM := { ad := glAd "key_octets", nm := "key_octets", ql := "key_octets", pa := defArgs s_key_octets, bo := defBody s_key_octets, sc := defScope s_key_octets }
def d_power : DefM := { ad := glAd "power", nm := "power", ql := "power", pa := defArgs s_power, bo := defBody s_power, sc := defScope s_power }
def d_whole : DefM := { ad := glAd "whole", nm := "whole", ql := "whole", pa := defArgs s_whole, bo := defBody s_whole, sc := defScope s_whole }
def d_digits_of : DefM := { ad := glAd "digits_of", nm := "digits_of", ql := "digits_of", pa := defArgs s_digits_of, bo := defBody s_digits_of, sc := defScope s_digits_of }
def d_signed_digits : DefM := { ad := glAd "signed_digits", nm := "signed_digits", ql := "signed_digits", pa := defArgs s_signed_digits, bo := defBody s_signed_digits, sc := defScope s_signed_digits }
def d_in_ascii : DefM := { ad := glAd "in_ascii", nm := "in_ascii", ql := "in_ascii", pa := defArgs s_in_ascii, bo := defBody s_in_ascii, sc := defScope s_in_ascii }
def d_shortest_signed : DefM := { ad := glAd "shortest_signed", nm := "shortest_signed", ql := "shortest_signed", pa := defArgs s_shortest_signed, bo := defBody s_shortest_signed, sc := defScope s_shortest_signed }
def d__number_octets : DefM := { ad := glAd "_number_octets", nm := "_number_octets", ql := "_number_octets", pa := defArgs s__number_octets, bo := defBody s__number_octets, sc := defScope s__number_octets }
def d_leaf_octets : DefM := { ad := glAd "leaf_octets", nm := "leaf_octets", ql := "leaf_octets", pa := defArgs s_leaf_octets, bo := defBody s_leaf_octets, sc := defScope s_leaf_octets }
def d__entry_octets : DefM := { ad := glAd "_entry_octets", nm := "_entry_octets", ql := "_entry_octets", pa := defArgs s__entry_octets, bo := defBody s__entry_octets, sc := defScope s__entry_octets }
def d__together : DefM := { ad := glAd "_together", nm := "_together", ql := "_together", pa := defArgs s__together, bo := defBody s__together, sc := defScope s__together }
def d_write_ber : DefM := { ad := glAd "write_ber", nm := "write_ber", ql := "write_ber", pa := defArgs s_write_ber, bo := defBody s_write_ber, sc := defScope s_write_ber }
def d__law_cell : DefM := { ad := glAd "_law_cell", nm := "_law_cell", ql := "_law_cell", pa := defArgs s__law_cell, bo := defBody s__law_cell, sc := defScope s__law_cell }
def d__law_numbers : DefM := { ad := glAd "_law_numbers", nm := "_law_numbers", ql := "_law_numbers", pa := defArgs s__law_numbers, bo := defBody s__law_numbers, sc := defScope s__law_numbers }
def d__law_state : DefM := { ad := glAd "_law_state", nm := "_law_state", ql := "_law_state", pa := defArgs s__law_state, bo := defBody s__law_state, sc := defScope s__law_state }
def d__law_next : DefM := { ad := glAd "_law_next", nm := "_law_next", ql := "_law_next", pa := defArgs s__law_next, bo := defBody s__law_next, sc := defScope s__law_next }
def d__law_big : DefM := { ad := glAd "_law_big", nm := "_law_big", ql := "_law_big", pa := defArgs s__law_big, bo := defBody s__law_big, sc := defScope s__law_big }
def d__law_tens : DefM := { ad := glAd "_law_tens", nm := "_law_tens", ql := "_law_tens", pa := defArgs s__law_tens, bo := defBody s__law_tens, sc := defScope s__law_tens }
def d__law_normal : DefM := { ad := glAd "_law_normal", nm := "_law_normal", ql := "_law_normal", pa := defArgs s__law_normal, bo := defBody s__law_normal, sc := defScope s__law_normal }
def d__law_number : DefM := { ad := glAd "_law_number", nm := "_law_number", ql := "_law_number", pa := defArgs s__law_number, bo := defBody s__law_number, sc := defScope s__law_number }
def d__law_many : DefM := { ad := glAd "_law_many", nm := "_law_many", ql := "_law_many", pa := defArgs s__law_many, bo := defBody s__law_many, sc := defScope s__law_many }
def d__law_any_point : DefM := { ad := glAd "_law_any_point", nm := "_law_any_point", ql := "_law_any_point", pa := defArgs s__law_any_point, bo := defBody s__law_any_point, sc := defScope s__law_any_point }
def d__law_points : DefM := { ad := glAd "_law_points", nm := "_law_points", ql := "_law_points", pa := defArgs s__law_points, bo := defBody s__law_points, sc := defScope s__law_points }
def d__law_octets : DefM := { ad := glAd "_law_octets", nm := "_law_octets", ql := "_law_octets", pa := defArgs s__law_octets, bo := defBody s__law_octets, sc := defScope s__law_octets }
def d__law_leaf : DefM := { ad := glAd "_law_leaf", nm := "_law_leaf", ql := "_law_leaf", pa := defArgs s__law_leaf, bo := defBody s__law_leaf, sc := defScope s__law_leaf }
def d__law_parts : DefM := { ad := glAd "_law_parts", nm := "_law_parts", ql := "_law_parts", pa := defArgs s__law_parts, bo := defBody s__law_parts, sc := defScope s__law_parts }
def d__law_value : DefM := { ad := glAd "_law_value", nm := "_law_value", ql := "_law_value", pa := defArgs s__law_value, bo := defBody s__law_value, sc := defScope s__law_value }
def d__law_towered : DefM := { ad := glAd "_law_towered", nm := "_law_towered", ql := "_law_towered", pa := defArgs s__law_towered, bo := defBody s__law_towered, sc := defScope s__law_towered }
def d__law_same : DefM := { ad := glAd "_law_same", nm := "_law_same", ql := "_law_same", pa := defArgs s__law_same, bo := defBody s__law_same, sc := defScope s__law_same }
def d__law_length : DefM := { ad := glAd "_law_length", nm := "_law_length", ql := "_law_length", pa := defArgs s__law_length, bo := defBody s__law_length, sc := defScope s__law_length }
def d__law_element : DefM := { ad := glAd "_law_element", nm := "_law_element", ql := "_law_element", pa := defArgs s__law_element, bo := defBody s__law_element, sc := defScope s__law_element }
def d__law_ascii : DefM := { ad := glAd "_law_ascii", nm := "_law_ascii", ql := "_law_ascii", pa := defArgs s__law_ascii, bo := defBody s__law_ascii, sc := defScope s__law_ascii }
def d__law_utf8 : DefM := { ad := glAd "_law_utf8", nm := "_law_utf8", ql := "_law_utf8", pa := defArgs s__law_utf8, bo := defBody s__law_utf8, sc := defScope s__law_utf8 }
def d__law_integer : DefM := { ad := glAd "_law_integer", nm := "_law_integer", ql := "_law_integer", pa := defArgs s__law_integer, bo := defBody s__law_integer, sc := defScope s__law_integer }
def d__law_leaf_written : DefM := { ad := glAd "_law_leaf_written", nm := "_law_leaf_written", ql := "_law_leaf_written", pa := defArgs s__law_leaf_written, bo := defBody s__law_leaf_written, sc := defScope s__law_leaf_written }
def d__law_written : DefM := { ad := glAd "_law_written", nm := "_law_written", ql := "_law_written", pa := defArgs s__law_written, bo := defBody s__law_written, sc := defScope s__law_written }
def d_law : DefM := { ad := glAd "law", nm := "law", ql := "law", pa := defArgs s_law, bo := defBody s_law, sc := defScope s_law }
def fn : List DefM := [d_wide, d_shortest, d__length_octets, d_element, d__encode_long, d_encode, d_key_octets, d_power, d_whole, d_digits_of, d_signed_digits, d_in_ascii, d_shortest_signed, d__number_octets, d_leaf_octets, d__entry_octets, d__together, d_write_ber, d__law_cell, d__law_numbers, d__law_state, d__law_next, d__law_big, d__law_tens, d__law_normal, d__law_number, d__law_many, d__law_any_point, d__law_points, d__law_octets, d__law_leaf, d__law_parts, d__law_value, d__law_towered, d__law_same, d__law_length, d__law_element, d__law_ascii, d__law_utf8, d__law_integer, d__law_leaf_written, d__law_written, d_law]
def fa : List He.Fa := [.glo "wide", .glo "shortest", .glo "_length_octets", .glo "element", .glo "_encode_long", .glo "encode", .glo "key_octets", .glo "power", .glo "whole", .glo "digits_of", .glo "signed_digits", .glo "in_ascii", .glo "shortest_signed", .glo "_number_octets", .glo "leaf_octets", .glo "_entry_octets", .glo "_together", .glo "write_ber", .glo "_law_cell", .glo "_law_numbers", .glo "_law_state", .glo "_law_next", .glo "_law_big", .glo "_law_tens", .glo "_law_normal", .glo "_law_number", .glo "_law_many", .glo "_law_any_point", .glo "_law_points", .glo "_law_octets", .glo "_law_leaf", .glo "_law_parts", .glo "_law_value", .glo "_law_towered", .glo "_law_same", .glo "_law_length", .glo "_law_element", .glo "_law_ascii", .glo "_law_utf8", .glo "_law_integer", .glo "_law_leaf_written", .glo "_law_written", .glo "law", .free "divmod", .free "str", .free "reversed", .free "abs", .free "range", .free "len", .free "list", .free "sorted", .free "int", .free "tuple", .free "isinstance", .free "bool", .free "ord", .int "PIECE" 10000000000000000000000000000000000000000000000000000000000000000, .int "PIECE_DIGITS" 64, .int "INDEFINITE" 128, .int "TRUTH" 1, .int "BYTES" 4, .int "NULL_TAG" 5, .int "TRUE_OCTET" 255, .int "FALSE_OCTET" 0, .int "TEXT" 12, .int "LARGEST_SCALE" 64, .int "DECIMAL" 9, .int "INTEGER" 2, .int "WITH_EXPONENT" 3, .int "LIST" 48, .int "MAP" 49]
def ex (K : Frg) : Bool := conB K "MARKS" (.tuple [.int 0, .int 192, .int 224, .int 240]) && (digB K)
abbrev RR : PySem.W.OpenRow := PySem.W.OpenLaw.row PySem.Challenge.rw_formsalike_k27_ber_written
def loose : List PySem.Str := (["TRUTH", "INTEGER", "BYTES", "NULL_TAG", "DECIMAL", "TEXT", "LIST", "MAP", "INDEFINITE", "PIECE_DIGITS", "PIECE", "power", "whole", "digits_of", "signed_digits", "in_ascii", "wide", "shortest", "shortest_signed", "MARKS", "encode", "_encode_long", "LARGEST_SCALE", "WITH_EXPONENT", "TRUE_OCTET", "FALSE_OCTET", "element", "_length_octets", "leaf_octets", "key_octets"] : List PySem.Str) ++ (["_number_octets", "write_ber", "_entry_octets", "_together", "_law_cell", "_law_numbers", "_law_state", "_law_next", "_law_big", "_law_tens", "_law_normal", "_law_number", "_law_many", "_law_any_point", "_law_points", "_law_octets", "_law_leaf", "_law_parts", "_law_value", "_law_towered", "_law_same", "_law_ascii", "_law_utf8", "_law_length", "_law_integer", "_law_element", "_law_leaf_written", "_law_written"] : List PySem.Str)
abbrev hk : PySem.W.Hook := hookM 5 fa ex fn
def ob (s : PySem.W.SharedT) : AlM := obsM fa ex fn (frM 5 (HandSHeadRun.getT s))
theorem ob_eq (s : PySem.W.SharedT) : ob s = hk.obs s.abs := obsM_eq (HandSHeadRun.getT_eq s)
theorem run (w : World) : HandSHeadRun.RunEq RR (PySem.W.view RR.prog [65]) hk ob 6000 loose w := by
  intro os
  kernel_rfl
theorem facts {P : Program} {w : World} {K : PySem.W.Frag} {h : Heap} {mg : Str → Option Value} {f : Addr} (X : K.In h) (G : h.Ns mainGlobals mg) (hfa : mg ("law" : Str) = some (.ref f)) (c : SaysM fa ex fn K) :
    ∃ fd : FuncData, (∀ (s : Shared) (v : Value), BindsTo s fd ⟨[v], []⟩ [("script", v)]) ∧ ∀ base : Heap, K.In base → base.Ns mainGlobals mg → FnOk P w K mg base CX0 63 f fd ["script"] (sp_law K) := by
  obtain ⟨fd_wide, F_wide⟩ := c.def_ 0 (d := d_wide) rfl
  obtain ⟨fd_shortest, F_shortest⟩ := c.def_ 1 (d := d_shortest) rfl
  obtain ⟨fd__length_octets, F__length_octets⟩ := c.def_ 2 (d := d__length_octets) rfl
  obtain ⟨fd_element, F_element⟩ := c.def_ 3 (d := d_element) rfl
  obtain ⟨fd__encode_long, F__encode_long⟩ := c.def_ 4 (d := d__encode_long) rfl
  obtain ⟨fd_encode, F_encode⟩ := c.def_ 5 (d := d_encode) rfl
  obtain ⟨fd_key_octets, F_key_octets⟩ := c.def_ 6 (d := d_key_octets) rfl
  obtain ⟨fd_power, F_power⟩ := c.def_ 7 (d := d_power) rfl
  obtain ⟨fd_whole, F_whole⟩ := c.def_ 8 (d := d_whole) rfl
  obtain ⟨fd_digits_of, F_digits_of⟩ := c.def_ 9 (d := d_digits_of) rfl
  obtain ⟨fd_signed_digits, F_signed_digits⟩ := c.def_ 10 (d := d_signed_digits) rfl
  obtain ⟨fd_in_ascii, F_in_ascii⟩ := c.def_ 11 (d := d_in_ascii) rfl
  obtain ⟨fd_shortest_signed, F_shortest_signed⟩ := c.def_ 12 (d := d_shortest_signed) rfl
  obtain ⟨fd__number_octets, F__number_octets⟩ := c.def_ 13 (d := d__number_octets) rfl
  obtain ⟨fd_leaf_octets, F_leaf_octets⟩ := c.def_ 14 (d := d_leaf_octets) rfl
  obtain ⟨fd__entry_octets, F__entry_octets⟩ := c.def_ 15 (d := d__entry_octets) rfl
  obtain ⟨fd__together, F__together⟩ := c.def_ 16 (d := d__together) rfl
  obtain ⟨fd_write_ber, F_write_ber⟩ := c.def_ 17 (d := d_write_ber) rfl
  obtain ⟨fd__law_cell, F__law_cell⟩ := c.def_ 18 (d := d__law_cell) rfl
  obtain ⟨fd__law_numbers, F__law_numbers⟩ := c.def_ 19 (d := d__law_numbers) rfl
  obtain ⟨fd__law_state, F__law_state⟩ := c.def_ 20 (d := d__law_state) rfl
  obtain ⟨fd__law_next, F__law_next⟩ := c.def_ 21 (d := d__law_next) rfl
  obtain ⟨fd__law_big, F__law_big⟩ := c.def_ 22 (d := d__law_big) rfl
  obtain ⟨fd__law_tens, F__law_tens⟩ := c.def_ 23 (d := d__law_tens) rfl
  obtain ⟨fd__law_normal, F__law_normal⟩ := c.def_ 24 (d := d__law_normal) rfl
  obtain ⟨fd__law_number, F__law_number⟩ := c.def_ 25 (d := d__law_number) rfl
  obtain ⟨fd__law_many, F__law_many⟩ := c.def_ 26 (d := d__law_many) rfl
  obtain ⟨fd__law_any_point, F__law_any_point⟩ := c.def_ 27 (d := d__law_any_point) rfl
  obtain ⟨fd__law_points, F__law_points⟩ := c.def_ 28 (d := d__law_points) rfl
  obtain ⟨fd__law_octets, F__law_octets⟩ := c.def_ 29 (d := d__law_octets) rfl
  obtain ⟨fd__law_leaf, F__law_leaf⟩ := c.def_ 30 (d := d__law_leaf) rfl
  obtain ⟨fd__law_parts, F__law_parts⟩ := c.def_ 31 (d := d__law_parts) rfl
  obtain ⟨fd__law_value, F__law_value⟩ := c.def_ 32 (d := d__law_value) rfl
  obtain ⟨fd__law_towered, F__law_towered⟩ := c.def_ 33 (d := d__law_towered) rfl
  obtain ⟨fd__law_same, F__law_same⟩ := c.def_ 34 (d := d__law_same) rfl
  obtain ⟨fd__law_length, F__law_length⟩ := c.def_ 35 (d := d__law_length) rfl
  obtain ⟨fd__law_element, F__law_element⟩ := c.def_ 36 (d := d__law_element) rfl
  obtain ⟨fd__law_ascii, F__law_ascii⟩ := c.def_ 37 (d := d__law_ascii) rfl
  obtain ⟨fd__law_utf8, F__law_utf8⟩ := c.def_ 38 (d := d__law_utf8) rfl
  obtain ⟨fd__law_integer, F__law_integer⟩ := c.def_ 39 (d := d__law_integer) rfl
  obtain ⟨fd__law_leaf_written, F__law_leaf_written⟩ := c.def_ 40 (d := d__law_leaf_written) rfl
  obtain ⟨fd__law_written, F__law_written⟩ := c.def_ 41 (d := d__law_written) rfl
  obtain ⟨fd_law, F_law⟩ := c.def_ 42 (d := d_law) rfl
  have m_wide := He.glo_ok X G (x := "wide") (c.fact 0 rfl)
  have m_shortest := He.glo_ok X G (x := "shortest") (c.fact 1 rfl)
  have m__length_octets := He.glo_ok X G (x := "_length_octets") (c.fact 2 rfl)
  have m_element := He.glo_ok X G (x := "element") (c.fact 3 rfl)
  have m__encode_long := He.glo_ok X G (x := "_encode_long") (c.fact 4 rfl)
  have m_encode := He.glo_ok X G (x := "encode") (c.fact 5 rfl)
  have m_key_octets := He.glo_ok X G (x := "key_octets") (c.fact 6 rfl)
  have m_power := He.glo_ok X G (x := "power") (c.fact 7 rfl)
  have m_whole := He.glo_ok X G (x := "whole") (c.fact 8 rfl)
  have m_digits_of := He.glo_ok X G (x := "digits_of") (c.fact 9 rfl)
  have m_signed_digits := He.glo_ok X G (x := "signed_digits") (c.fact 10 rfl)
  have m_in_ascii := He.glo_ok X G (x := "in_ascii") (c.fact 11 rfl)
  have m_shortest_signed := He.glo_ok X G (x := "shortest_signed") (c.fact 12 rfl)
  have m__number_octets := He.glo_ok X G (x := "_number_octets") (c.fact 13 rfl)
  have m_leaf_octets := He.glo_ok X G (x := "leaf_octets") (c.fact 14 rfl)
  have m__entry_octets := He.glo_ok X G (x := "_entry_octets") (c.fact 15 rfl)
  have m__together := He.glo_ok X G (x := "_together") (c.fact 16 rfl)
  have m_write_ber := He.glo_ok X G (x := "write_ber") (c.fact 17 rfl)
  have m__law_cell := He.glo_ok X G (x := "_law_cell") (c.fact 18 rfl)
  have m__law_numbers := He.glo_ok X G (x := "_law_numbers") (c.fact 19 rfl)
  have m__law_state := He.glo_ok X G (x := "_law_state") (c.fact 20 rfl)
  have m__law_next := He.glo_ok X G (x := "_law_next") (c.fact 21 rfl)
  have m__law_big := He.glo_ok X G (x := "_law_big") (c.fact 22 rfl)
  have m__law_tens := He.glo_ok X G (x := "_law_tens") (c.fact 23 rfl)
  have m__law_normal := He.glo_ok X G (x := "_law_normal") (c.fact 24 rfl)
  have m__law_number := He.glo_ok X G (x := "_law_number") (c.fact 25 rfl)
  have m__law_many := He.glo_ok X G (x := "_law_many") (c.fact 26 rfl)
  have m__law_any_point := He.glo_ok X G (x := "_law_any_point") (c.fact 27 rfl)
  have m__law_points := He.glo_ok X G (x := "_law_points") (c.fact 28 rfl)
  have m__law_octets := He.glo_ok X G (x := "_law_octets") (c.fact 29 rfl)
  have m__law_leaf := He.glo_ok X G (x := "_law_leaf") (c.fact 30 rfl)
  have m__law_parts := He.glo_ok X G (x := "_law_parts") (c.fact 31 rfl)
  have m__law_value := He.glo_ok X G (x := "_law_value") (c.fact 32 rfl)
  have m__law_towered := He.glo_ok X G (x := "_law_towered") (c.fact 33 rfl)
  have m__law_same := He.glo_ok X G (x := "_law_same") (c.fact 34 rfl)
  have m__law_length := He.glo_ok X G (x := "_law_length") (c.fact 35 rfl)
  have m__law_element := He.glo_ok X G (x := "_law_element") (c.fact 36 rfl)
  have m__law_ascii := He.glo_ok X G (x := "_law_ascii") (c.fact 37 rfl)
  have m__law_utf8 := He.glo_ok X G (x := "_law_utf8") (c.fact 38 rfl)
  have m__law_integer := He.glo_ok X G (x := "_law_integer") (c.fact 39 rfl)
  have m__law_leaf_written := He.glo_ok X G (x := "_law_leaf_written") (c.fact 40 rfl)
  have m__law_written := He.glo_ok X G (x := "_law_written") (c.fact 41 rfl)
  have m_law := He.glo_ok X G (x := "law") (c.fact 42 rfl)
  have xx : ex K = true := c.more
  have x0 := (both xx).1
  replace xx := (both xx).2
  have x1 := xx
  have nb : Nm K mg := ⟨He.free_ok X G (c.fact 43 rfl),
    He.free_ok X G (c.fact 44 rfl),
    He.free_ok X G (c.fact 45 rfl),
    He.free_ok X G (c.fact 46 rfl),
    He.free_ok X G (c.fact 47 rfl),
    He.free_ok X G (c.fact 48 rfl),
    He.free_ok X G (c.fact 49 rfl),
    He.free_ok X G (c.fact 50 rfl),
    He.free_ok X G (c.fact 51 rfl),
    He.free_ok X G (c.fact 52 rfl),
    He.free_ok X G (c.fact 53 rfl),
    He.free_ok X G (c.fact 54 rfl),
    He.free_ok X G (c.fact 55 rfl),
    conI X G (c.fact 56 rfl),
    conI X G (c.fact 57 rfl),
    conM X G x0,
    conI X G (c.fact 58 rfl),
    conI X G (c.fact 59 rfl),
    conI X G (c.fact 60 rfl),
    conI X G (c.fact 61 rfl),
    conI X G (c.fact 62 rfl),
    conI X G (c.fact 63 rfl),
    conI X G (c.fact 64 rfl),
    conI X G (c.fact 65 rfl),
    conI X G (c.fact 66 rfl),
    conI X G (c.fact 67 rfl),
    conI X G (c.fact 68 rfl),
    conI X G (c.fact 69 rfl),
    conI X G (c.fact 70 rfl),
    digK_ok x1⟩
  have e := hfa.symm.trans m_law
  cases e
  have b := FunD.bindsA (ps := ["script"]) F_law fun _ _ _ _ _ _ us hl => match us, hl with | [_], _ => rfl
  refine ⟨fd_law, fun s v => b s [v] rfl, fun base _ _ => ?_⟩
  have c_wide := ok_wide (P := P) (w := w) (base := base) F_wide m_wide nb
  have c_shortest := ok_shortest (P := P) (w := w) (base := base) F_shortest m_shortest nb c_wide
  have c__length_octets := ok__length_octets (P := P) (w := w) (base := base) F__length_octets m__length_octets nb c_shortest
  have c_element := ok_element (P := P) (w := w) (base := base) F_element m_element nb c__length_octets
  have c__encode_long := ok__encode_long (P := P) (w := w) (base := base) F__encode_long m__encode_long nb
  have c_encode := ok_encode (P := P) (w := w) (base := base) F_encode m_encode nb c__encode_long
  have c_key_octets := ok_key_octets (P := P) (w := w) (base := base) F_key_octets m_key_octets nb c_encode c_element
  have c_power := ok_power (P := P) (w := w) (base := base) F_power m_power nb
  have c_whole := ok_whole (P := P) (w := w) (base := base) F_whole m_whole nb c_power
  have c_digits_of := ok_digits_of (P := P) (w := w) (base := base) F_digits_of m_digits_of nb
  have c_signed_digits := ok_signed_digits (P := P) (w := w) (base := base) F_signed_digits m_signed_digits nb c_digits_of
  have c_in_ascii := ok_in_ascii (P := P) (w := w) (base := base) F_in_ascii m_in_ascii nb
  have c_shortest_signed := ok_shortest_signed (P := P) (w := w) (base := base) F_shortest_signed m_shortest_signed nb c_wide
  have c__number_octets := ok__number_octets (P := P) (w := w) (base := base) F__number_octets m__number_octets nb c_whole c_signed_digits c_in_ascii c_shortest_signed c_element
  have c_leaf_octets := ok_leaf_octets (P := P) (w := w) (base := base) F_leaf_octets m_leaf_octets nb c_element c_key_octets c__number_octets
  have c__together := ok__together (P := P) (w := w) (base := base) F__together m__together nb
  have c_write_ber := rec_write_ber (P := P) (w := w) (base := base) F__entry_octets m__entry_octets F_write_ber m_write_ber nb c_element c_leaf_octets c_key_octets c__together 26
  have c__law_cell := ok__law_cell (P := P) (w := w) (base := base) F__law_cell m__law_cell nb
  have c__law_numbers := ok__law_numbers (P := P) (w := w) (base := base) F__law_numbers m__law_numbers nb
  have c__law_state := ok__law_state (P := P) (w := w) (base := base) F__law_state m__law_state nb c__law_cell c__law_numbers
  have c__law_next := ok__law_next (P := P) (w := w) (base := base) F__law_next m__law_next nb
  have c__law_big := ok__law_big (P := P) (w := w) (base := base) F__law_big m__law_big nb c__law_cell c__law_next
  have c__law_tens := ok__law_tens (P := P) (w := w) (base := base) F__law_tens m__law_tens nb
  have c__law_normal := ok__law_normal (P := P) (w := w) (base := base) F__law_normal m__law_normal nb
  have c__law_number := ok__law_number (P := P) (w := w) (base := base) F__law_number m__law_number nb c__law_next c__law_big c__law_tens c__law_normal
  have c__law_many := ok__law_many (P := P) (w := w) (base := base) F__law_many m__law_many nb c__law_next
  have c__law_any_point := ok__law_any_point (P := P) (w := w) (base := base) F__law_any_point m__law_any_point nb c__law_next
  have c__law_points := ok__law_points (P := P) (w := w) (base := base) F__law_points m__law_points nb c__law_many c__law_any_point
  have c__law_octets := ok__law_octets (P := P) (w := w) (base := base) F__law_octets m__law_octets nb c__law_next c__law_many
  have c__law_leaf := ok__law_leaf (P := P) (w := w) (base := base) F__law_leaf m__law_leaf nb c__law_next c__law_number c__law_points c__law_octets
  have c__law_parts := ok__law_parts (P := P) (w := w) (base := base) F__law_parts m__law_parts nb c__law_next
  have c__law_value := rec__law_value (P := P) (w := w) (base := base) F__law_value m__law_value nb c__law_next c__law_points c__law_leaf c__law_parts 5
  have c__law_towered := ok__law_towered (P := P) (w := w) (base := base) F__law_towered m__law_towered nb c__law_next
  have c__law_same := rec__law_same (P := P) (w := w) (base := base) F__law_same m__law_same nb 3
  have c__law_length := ok__law_length (P := P) (w := w) (base := base) F__law_length m__law_length nb
  have c__law_element := ok__law_element (P := P) (w := w) (base := base) F__law_element m__law_element nb c__law_length
  have c__law_ascii := ok__law_ascii (P := P) (w := w) (base := base) F__law_ascii m__law_ascii nb
  have c__law_utf8 := ok__law_utf8 (P := P) (w := w) (base := base) F__law_utf8 m__law_utf8 nb
  have c__law_integer := ok__law_integer (P := P) (w := w) (base := base) F__law_integer m__law_integer nb
  have c__law_leaf_written := ok__law_leaf_written (P := P) (w := w) (base := base) F__law_leaf_written m__law_leaf_written nb c__law_tens c__law_ascii c__law_utf8 c__law_integer c__law_element
  have c__law_written := rec__law_written (P := P) (w := w) (base := base) F__law_written m__law_written nb c__law_utf8 c__law_element c__law_leaf_written 26
  exact ok_law F_law nb c_write_ber c__law_state c__law_next c__law_leaf c__law_value c__law_towered c__law_same c__law_element c__law_leaf_written c__law_written
end Fa
open PySem PySem.W PySem.Calls PyProof.Rows
theorem PySem.Challenge.cw_formsalike_k27_ber_written_holds : PySem.Challenge.rw_formsalike_k27_ber_written.Holds := by
  w_on; o_law
  refine HandSHeadRun.head_any (r := OpenLaw.row PySem.Challenge.rw_formsalike_k27_ber_written) (q := view (OpenLaw.row PySem.Challenge.rw_formsalike_k27_ber_written).prog [65]) (H := Fa.hk) (ob := Fa.ob) (M := 6000) (loose := Fa.loose) (d := HandSHeadRun.topDef (OpenLaw.row PySem.Challenge.rw_formsalike_k27_ber_written).prog 65) (kwd := []) Fa.ob_eq
    (by kernel_rfl) (fun s => by kernel_rfl) Fa.run (by kernel_rfl) (by kernel_rfl) (by kernel_rfl) (by rfl) (by first | assumption | decide +kernel) (by decide +kernel) ⟨rfl, rfl, rfl, rfl, rfl, by decide +kernel⟩ ?hw ?hc
  case hw => w_witness2
  case hc =>
    refine L2.walk_ofE (l := PySem.Challenge.rw_formsalike_k27_ber_written) (n := 63) (k := 63) (x := "script") (CX := L2.CX0) rfl (by decide) (by kernel_rfl) ⟨rfl, by decide, by decide⟩ ?F (fun _ _ _ _ z => z)
    intro w mg fa h Y G hmg0
    obtain ⟨K, KX, c⟩ := Y
    have hmg : mg ("law" : PySem.Str) = some (.ref fa) := by
      have e : (HandSHeadRun.topDef (OpenLaw.row PySem.Challenge.rw_formsalike_k27_ber_written).prog 65).name = ("law" : PySem.Str) := by kernel_rfl
      rw [← e]
      exact hmg0
    obtain ⟨fd, hb, hF⟩ := Fa.facts (P := (PySem.Challenge.rw_formsalike_k27_ber_written).prog) (w := w) KX G hmg c
    exact ⟨K, fd, Fa.sp_law K, KX, hb, fun H a ns hl _ hS => ⟨_, rfl, a, ns, rfl, hS, fun _ => rfl⟩, hF⟩
